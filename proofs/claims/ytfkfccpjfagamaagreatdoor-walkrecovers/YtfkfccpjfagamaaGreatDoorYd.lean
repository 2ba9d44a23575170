import Derived.Test.YtfkfccpjfagamaaGreatDoorYc
import Derived.Recover
import Derived.AtR
import Derived.RangeFuncLeaves
import Derived.Scope
import Derived.RangeFuncRecord
import Derived.Laws.Sem
set_option linter.all false
namespace Ex
open Go Go.MapKept
variable [Base] {P : Program}
/-- Of what kind a frame is. -/
inductive KD where | normal | deferred | round (l : Nat)
def KD.ok : KD → Frame → Prop
  | .normal, b => b.kind = .normal ∧ b.roundOf = none
  | .deferred, b => b.kind = .deferred ∧ b.roundOf = none
  | .round l, b => b.kind = .normal ∧ b.roundOf = some l
def KD.rd : KD → Bool | .round _ => true | _ => false
/-- No deferred call in a round. -/
abbrev Fr (kd : KD) (o : Oper) : Prop := (bif kd.rd then deferB o.op else false) = false
theorem sem_at {kd : KD} {b : Frame} (hb : kd.ok b) {o : Oper} (hn : Fr kd o) (ev : Operand → Value) : o.semAt b.roundOf ev = execOp ev o := by
  cases kd with
  | normal => rw [hb.2]; rfl
  | deferred => rw [hb.2]; rfl
  | round l =>
    refine Oper.semAt_eq _ _ _ (fun c hc => ?_)
    have h2 : deferB o.op = false := hn
    rw [hc] at h2; cases h2
/-- How a piece of code is left: at the statement that leaves it. -/
def Arr (P : Program) (m : Machine) (b : Frame) (k : List Item) (cs : List Frame) : Exit → Act → World → Prop
  | .normal, a, w => Steps P m (lone (b.atR a k) cs w)
  | .exit id, a, w => ∃ k1, exitTo id k1 = exitTo id k ∧ Steps P m (lone (b.atR a (.code (.exit id) :: k1)) cs w)
  | .goto _, _, _ => False
  | .ret, a, w => ∃ k1, Steps P m (lone (b.atR a (.code .ret :: k1)) cs w)
  | .panic ch, a, w => ∃ todo, Steps P m (lone { b.atR a todo with mode := .panicking ch } cs w)
  | .outgrown, _, _ => False
theorem Arr.of_steps {P : Program} {m m1 : Machine} {b : Frame} {k : List Item} {cs : List Frame} {e : Exit} {a : Act} {w : World} (h : Steps P m m1) (h' : Arr P m1 b k cs e a w) : Arr P m b k cs e a w := by
  cases e with
  | normal => exact h.trans h'
  | exit id => obtain ⟨k1, q, s⟩ := h'; exact ⟨k1, q, h.trans s⟩
  | goto l => exact h'
  | ret => obtain ⟨k1, s⟩ := h'; exact ⟨k1, h.trans s⟩
  | panic ch => obtain ⟨k1, s⟩ := h'; exact ⟨k1, h.trans s⟩
  | outgrown => exact h'
theorem Arr.pass {P : Program} {m : Machine} {b : Frame} {x : Item} {k : List Item} {cs : List Frame} {e : Exit} {a : Act} {w : World} (hx : ∀ id, exitTo id (x :: k) = exitTo id k) (hne : e ≠ .normal) (h : Arr P m b (x :: k) cs e a w) : Arr P m b k cs e a w := by
  cases e with
  | normal => exact (hne rfl).elim
  | exit id => obtain ⟨k1, q, s⟩ := h; exact ⟨k1, q.trans (hx id), s⟩
  | goto l => exact h
  | ret => exact h
  | panic ch => exact h
  | outgrown => exact h
/-- What a piece of code comes to, of frames of one kind. -/
def GW (P : Program) (kd : KD) (c : Code) (Q : Exit → Act → List Frame → World → Prop) (a : Act) (cs : List Frame) (w : World) : Prop :=
  ∀ (b : Frame) (k : List Item), kd.ok b → ∃ e a' cs' w', Q e a' cs' w' ∧ Arr P (lone (b.atR a (.code c :: k)) cs w) b k cs' e a' w'
def GO (P : Program) (kd : KD) (ops : Array Oper) (Q : Exit → Act → List Frame → World → Prop) (l : List Nat) (a : Act) (cs : List Frame) (w : World) : Prop :=
  ∀ (b : Frame) (k : List Item), kd.ok b → ∃ e a' cs' w', Q e a' cs' w' ∧ Arr P (lone (b.atR a (.inRegion ops l :: k)) cs w) b k cs' e a' w'
section
variable {kd : KD} {Q : Exit → Act → List Frame → World → Prop} {a : Act} {cs : List Frame} {w : World} {ops : Array Oper} {i : Nat} {rest : List Nat} {o : Oper}
theorem GO.nil (h : Q .normal a cs w) : GO P kd ops Q [] a cs w := fun b k _ => ⟨.normal, a, cs, w, h, .one stepR_region_end⟩
theorem GO.pass (ho : ops[i]? = some o) (hw : Region.wanted o (yielded ops a.tmps) = false) (h : GO P kd ops Q rest (a.put o.dst undef) cs w) : GO P kd ops Q (i :: rest) a cs w := fun b k hb => by
  obtain ⟨e, a', cs', w', hq, harr⟩ := h b k hb
  have hs := stepR_op_skip (P := P) (b := b) (a := a) (k := k) (cs := cs) (w := w) (ops := ops) (i := i) (rest := rest) (by simp [ho, hw])
  simp only [ho, Option.bind_some] at hs
  exact ⟨e, a', cs', w', hq, .of_steps (.one hs) harr⟩
theorem fin_at (ho : ops[i]? = some o) (b : Frame) (k : List Item) (v : Value) : (b.atR a (.inRegion ops (i :: rest) :: k)).finish v = b.atR (a.put o.dst v) (.inRegion ops rest :: k) := by
  rw [Frame.finish_atR, ho]; rfl
theorem GO.value (hn : Fr kd o) (ho : ops[i]? = some o) (hw : Region.wanted o (yielded ops a.tmps) = true) {v : Value} {w' : World} (hr : (execOp a.eval o).run P w = .ok (.value v) w') (h : GO P kd ops Q rest (a.put o.dst v) cs w') : GO P kd ops Q (i :: rest) a cs w := fun b k hb => by
  obtain ⟨e, a', cs', w'', hq, harr⟩ := h b k hb
  refine ⟨e, a', cs', w'', hq, .of_steps (.one (step_lone_go ?_)) harr⟩
  rw [stepGR_op ho hw, sem_at hb hn, ← fin_at ho]; simp [stepG.apply, hr]
theorem GO.skip (hn : Fr kd o) (ho : ops[i]? = some o) (hw : Region.wanted o (yielded ops a.tmps) = true) {w' : World} (hr : (execOp a.eval o).run P w = .ok .skip w') (h : GO P kd ops Q rest (a.put o.dst undef) cs w') : GO P kd ops Q (i :: rest) a cs w := fun b k hb => by
  obtain ⟨e, a', cs', w'', hq, harr⟩ := h b k hb
  refine ⟨e, a', cs', w'', hq, .of_steps (.one (step_lone_go ?_)) harr⟩
  rw [stepGR_op ho hw, sem_at hb hn, ← fin_at ho]; simp [stepG.apply, hr]
theorem GO.defer (hn : Fr kd o) (ho : ops[i]? = some o) (hw : Region.wanted o (yielded ops a.tmps) = true) {d : Deferred} {w' : World} (hr : (execOp a.eval o).run P w = .ok (.defer d) w') (h : GO P kd ops Q rest ({ a with defers := d :: a.defers }.put o.dst undef) cs w') : GO P kd ops Q (i :: rest) a cs w := fun b k hb => by
  obtain ⟨e, a', cs', w'', hq, harr⟩ := h b k hb
  refine ⟨e, a', cs', w'', hq, .of_steps (.one (step_lone_go ?_)) harr⟩
  have : ({ b.atR a (.inRegion ops (i :: rest) :: k) with defers := d :: a.defers } : Frame).finish undef =
      b.atR ({ a with defers := d :: a.defers }.put o.dst undef) (.inRegion ops rest :: k) := by
    have := Frame.finish_atR b { a with defers := d :: a.defers } ops i rest k undef
    rw [ho] at this; exact this
  rw [stepGR_op ho hw, sem_at hb hn]; simp only [stepG.apply, Sem.runT_eq, hr, GStep.bare_after]
  exact congrArg (fun fr => GStep.go { frame := fr, callers := cs, status := .running, dying := none } w') this
theorem GO.panic (hn : Fr kd o) (ho : ops[i]? = some o) (hw : Region.wanted o (yielded ops a.tmps) = true) {v : Value} {w' : World} (hr : (execOp a.eval o).run P w = .halt (.panic v) w') (h : Q (.panic [{ v, recovered := false }]) a cs w') : GO P kd ops Q (i :: rest) a cs w := fun b k hb => by
  refine ⟨_, a, cs, w', h, .inRegion ops (i :: rest) :: k, .one (step_lone_go ?_)⟩
  rw [stepGR_op ho hw, sem_at hb hn, ← Frame.raise_atR]; simp [stepG.apply, hr]
theorem GO.enter (hn : Fr kd o) (ho : ops[i]? = some o) (hw : Region.wanted o (yielded ops a.tmps) = true) {f : FuncId} {args : Array Value} {w' : World} {R : Ending → World → Prop} (hr : (execOp a.eval o).run P w = .ok (.enter f args) w')
    (hc : Calls P f args w' R) (h1 : ∀ v w2, R (.returned v) w2 → GO P kd ops Q rest (a.put o.dst v) cs w2) (h2 : ∀ ch w2, R (.panicked ch) w2 → Q (.panic ch) a cs w2) (h3 : ∀ w2, ¬ R .outgrown w2) : GO P kd ops Q (i :: rest) a cs w := fun b k hb => by
  obtain ⟨e, w'', fr, hR, hsteps, _, hleave⟩ := hc (b.atR a (.inRegion ops (i :: rest) :: k) :: cs)
  have henter : step P (lone (b.atR a (.inRegion ops (i :: rest) :: k)) cs w) =
      .next (lone (Frame.enter P f args .normal) (b.atR a (.inRegion ops (i :: rest) :: k) :: cs) w') :=
    step_lone_go (by rw [stepGR_op ho hw, sem_at hb hn]; simp [stepG.apply, hr, Frame.atR])
  cases e with
  | returned v =>
    obtain ⟨e, a', cs', w3, hq, harr⟩ := h1 _ _ hR b k hb
    refine ⟨e, a', cs', w3, hq, .of_steps (.head henter (hsteps.trans (.one ?_))) harr⟩
    rw [← fin_at ho]; exact step_leave_returned hleave
  | panicked chain =>
    refine ⟨.panic chain, a, cs, w'', h2 _ _ hR, .inRegion ops (i :: rest) :: k, .head henter (hsteps.trans (.one ?_))⟩
    rw [← Frame.raise_atR]; exact step_leave_panicked hleave
  | outgrown => exact (h3 _ hR).elim
theorem GO.recover (ho : ops[i]? = some o) (hw : Region.wanted o (yielded ops a.tmps) = true) (hr : (execOp a.eval o).run P w = .ok .recover w) {v : Value} {cs' : List Frame} (hc : recoverD cs = some (v, cs')) (h : GO P .deferred ops Q rest (a.put o.dst v) cs' w) : GO P .deferred ops Q (i :: rest) a cs w := fun b k hb => by
  obtain ⟨e, a', cs'', w'', hq, harr⟩ := h b k hb
  have hk : (b.atR a (.inRegion ops (i :: rest) :: k)).kind = .deferred := hb.1
  have htr := tryRecover_deferred hk cs
  refine ⟨e, a', cs'', w'', hq, .of_steps (.one (step_lone_go ?_)) harr⟩
  rw [stepGR_op ho hw, sem_at hb (show Fr .deferred o from rfl), ← fin_at ho]
  have h0 : b.roundOf = none := hb.2
  simp only [Frame.atR, h0] at htr ⊢
  simp [stepG.apply, hr, htr, hc]
theorem GO.recover0 (ho : ops[i]? = some o) (hw : Region.wanted o (yielded ops a.tmps) = true) (hr : (execOp a.eval o).run P w = .ok .recover w) (hc : recoverD cs = none) (h : GO P .deferred ops Q rest (a.put o.dst .nilIface) cs w) : GO P .deferred ops Q (i :: rest) a cs w := fun b k hb => by
  obtain ⟨e, a', cs'', w'', hq, harr⟩ := h b k hb
  have hk : (b.atR a (.inRegion ops (i :: rest) :: k)).kind = .deferred := hb.1
  have htr := tryRecover_deferred hk cs
  refine ⟨e, a', cs'', w'', hq, .of_steps (.one (step_lone_go ?_)) harr⟩
  rw [stepGR_op ho hw, sem_at hb (show Fr .deferred o from rfl), ← fin_at ho]
  have h0 : b.roundOf = none := hb.2
  simp only [Frame.atR, h0] at htr ⊢
  simp [stepG.apply, hr, htr, hc]
theorem GW.mono {c : Code} {Q' : Exit → Act → List Frame → World → Prop} (h : GW P kd c Q a cs w) (hq : ∀ e a cs w, Q e a cs w → Q' e a cs w) : GW P kd c Q' a cs w :=
  fun b k hb => let ⟨e, a', cs', w', q, r⟩ := h b k hb; ⟨e, a', cs', w', hq _ _ _ _ q, r⟩
theorem GW.region {id : Nat} (h : GO P kd ops Q (List.range ops.size) a cs w) : GW P kd (.region id ops false) Q a cs w :=
  fun b k hb => let ⟨e, a', cs', w', q, r⟩ := h b k hb; ⟨e, a', cs', w', q, .of_steps (.one stepR_region) r⟩
theorem GW.draw {id : Nat} (h : ∀ t, GO P kd ops Q (Region.schedule (P.follows .mixedOrders) ops t) a cs { w with drawn := w.drawn + 1 }) : GW P kd (.region id ops true) Q a cs w :=
  fun b k hb => let ⟨e, a', cs', w', q, r⟩ := h _ b k hb; ⟨e, a', cs', w', q, .of_steps (.one stepR_region_draw) r⟩
theorem GW.skip (h : Q .normal a cs w) : GW P kd .skip Q a cs w := fun _ _ _ => ⟨.normal, a, cs, w, h, .one stepR_skip⟩
theorem GW.label {l : Nat} (h : Q .normal a cs w) : GW P kd (.label l) Q a cs w := fun _ _ _ => ⟨.normal, a, cs, w, h, .one stepR_label⟩
theorem GW.ret (h : Q .ret a cs w) : GW P kd .ret Q a cs w := fun b k _ => ⟨.ret, a, cs, w, h, k, .refl _ _⟩
theorem GW.exit {id : Nat} (h : Q (.exit id) a cs w) : GW P kd (.exit id) Q a cs w := fun b k _ => ⟨.exit id, a, cs, w, h, k, rfl, .refl _ _⟩
theorem GW.cond {c : Operand} {x y : Code} {t : Bool} (hc : a.eval c = .bool t) (h : GW P kd (if t then x else y) Q a cs w) : GW P kd (.cond c x y) Q a cs w :=
  fun b k hb => let ⟨e, a', cs', w', q, r⟩ := h b k hb; ⟨e, a', cs', w', q, .of_steps (.one (stepR_cond hc)) r⟩
/-- One piece behind another. -/
theorem GW.seq {x y : Code} {Q1 : Exit → Act → List Frame → World → Prop} (h : GW P kd x Q1 a cs w) (hn : ∀ a' cs' w', Q1 .normal a' cs' w' → GW P kd y Q a' cs' w') (he : ∀ e a' cs' w', Q1 e a' cs' w' → e ≠ .normal → Q e a' cs' w') : GW P kd (.seq x y) Q a cs w := by
  intro b k hb
  obtain ⟨e, a1, cs1, w1, hq, harr⟩ := h b (.code y :: k) hb
  by_cases hne : e = .normal
  · subst hne
    obtain ⟨e2, a2, cs2, w2, hq2, harr2⟩ := hn _ _ _ hq b k hb
    exact ⟨e2, a2, cs2, w2, hq2, .of_steps (.head stepR_seq harr) harr2⟩
  · exact ⟨e, a1, cs1, w1, he _ _ _ _ hq hne, .of_steps (.one stepR_seq) (.pass (x := .code y) (fun _ => rfl) hne harr)⟩
def GL (P : Program) (kd : KD) (x : Code) (Q : Exit → Act → List Frame → World → Prop) (a : Act) (cs : List Frame) (w : World) : Prop :=
  ∀ (b : Frame) (k : List Item), kd.ok b → ∃ e a' cs' w', Q e a' cs' w' ∧ Arr P (lone (b.atR a (.code x :: .inLoop x :: k)) cs w) b k cs' e a' w'
theorem GW.loop {x : Code} (h : GL P kd x Q a cs w) : GW P kd (.loop x) Q a cs w :=
  fun b k hb => let ⟨e, a', cs', w', q, r⟩ := h b k hb; ⟨e, a', cs', w', q, .of_steps (.one stepR_loop) r⟩
theorem GL.round {x : Code} {Q1 : Exit → Act → List Frame → World → Prop} (h : GW P kd x Q1 a cs w) (hn : ∀ a' cs' w', Q1 .normal a' cs' w' → GL P kd x Q a' cs' w') (he : ∀ e a' cs' w', Q1 e a' cs' w' → e ≠ .normal → Q e a' cs' w') : GL P kd x Q a cs w := by
  intro b k hb
  obtain ⟨e, a1, cs1, w1, hq, harr⟩ := h b (.inLoop x :: k) hb
  by_cases hne : e = .normal
  · subst hne
    obtain ⟨e2, a2, cs2, w2, hq2, harr2⟩ := hn _ _ _ hq b k hb
    exact ⟨e2, a2, cs2, w2, hq2, .of_steps (Steps.trans harr (.one stepR_inLoop)) harr2⟩
  · exact ⟨e, a1, cs1, w1, he _ _ _ _ hq hne, Arr.pass (x := .inLoop x) (fun _ => rfl) hne harr⟩
theorem GW.block {id : Nat} {x : Code} {Q1 : Exit → Act → List Frame → World → Prop} (h : GW P kd x Q1 a cs w) (hn : ∀ a' cs' w', Q1 .normal a' cs' w' → Q .normal a' cs' w') (hx : ∀ a' cs' w', Q1 (.exit id) a' cs' w' → Q .normal a' cs' w')
    (he : ∀ e a' cs' w', Q1 e a' cs' w' → e ≠ .normal → e ≠ .exit id → Q e a' cs' w') : GW P kd (.block id x) Q a cs w := by
  intro b k hb
  obtain ⟨e, a1, cs1, w1, hq, harr⟩ := h b (.inBlock id :: k) hb
  by_cases hne : e = .normal
  · subst hne
    exact ⟨.normal, a1, cs1, w1, hn _ _ _ hq, .head stepR_block (Steps.trans harr (.one stepR_inBlock))⟩
  by_cases hxe : e = .exit id
  · subst hxe
    obtain ⟨k1, hk1, hs⟩ := harr
    have hk2 : exitTo id k1 = some k := by rw [hk1]; simp [exitTo]
    exact ⟨.normal, a1, cs1, w1, hx _ _ _ hq, .head stepR_block (Steps.trans hs (.one (stepR_exit hk2)))⟩
  refine ⟨e, a1, cs1, w1, he _ _ _ _ hq hne hxe, ?_⟩
  cases e with
  | normal => exact (hne rfl).elim
  | exit id' =>
    obtain ⟨k1, hk1, hs⟩ := harr
    have : (id == id') = false := by simp; exact fun h => hxe (by rw [h])
    exact ⟨k1, by rw [hk1]; simp [exitTo, this], .head stepR_block hs⟩
  | goto l => exact harr
  | ret => exact .of_steps (.one stepR_block) harr
  | panic ch => exact .of_steps (.one stepR_block) harr
  | outgrown => exact harr
end
end Ex
namespace Ex
open Go Go.MapKept
variable [Base] {P : Program}
theorem GW.scope {kd : KD} {Q : Exit → Act → List Frame → World → Prop} {a : Act} {cs : List Frame} {w : World} {c : Code} (h : GW P kd c Q a cs w) : GW P kd (.scope c) Q a cs w := by
  intro b k hb
  obtain ⟨e, a1, cs1, w1, hq, harr⟩ := h b (.inScope c :: k) hb
  have h1 : step P (lone (b.atR a (.code (.scope c) :: k)) cs w) = .next (lone (b.atR a (.code c :: .inScope c :: k)) cs w) := step_lone_go (by simp [stepG, stepG.exec, Frame.atR])
  by_cases hne : e = .normal
  · subst hne
    have h2 : step P (lone (b.atR a1 (.inScope c :: k)) cs1 w1) = .next (lone (b.atR a1 k) cs1 w1) := step_lone_go (by simp [stepG, stepG.exec, Frame.atR])
    exact ⟨.normal, a1, cs1, w1, hq, .head h1 (Steps.trans harr (.one h2))⟩
  · exact ⟨e, a1, cs1, w1, hq, .of_steps (.one h1) (.pass (x := .inScope c) (fun _ => rfl) hne harr)⟩
/-- A round of a range over a function, whole. -/
def Rounds (P : Program) (l : Nat) (xs : Array Value) (w : World) (R : Ending → World → Prop) : Prop :=
  ∃ fn tm x y, (Instr.yield l xs).run P w = .ok (.round l fn tm x y) w ∧ ∀ (c : Frame) (cs : List Frame), ∃ v w', R (.returned v) w' ∧ Steps P (lone (Frame.round l fn tm x y .normal) (c :: cs) w) (lone (c.finish v) cs w')
theorem GO.round {kd : KD} {Q : Exit → Act → List Frame → World → Prop} {a : Act} {cs : List Frame} {w : World} {ops : Array Oper} {i : Nat} {rest : List Nat} {o : Oper} (hn : Fr kd o) (ho : ops[i]? = some o) (hw : Region.wanted o (yielded ops a.tmps) = true) {l : Nat} {xs : Array Value} {R : Ending → World → Prop}
    (hr : (execOp a.eval o).run P w = (Instr.yield l xs).run P w) (hc : Rounds P l xs w R) (h1 : ∀ v w2, R (.returned v) w2 → GO P kd ops Q rest (a.put o.dst v) cs w2) : GO P kd ops Q (i :: rest) a cs w := fun b k hb => by
  obtain ⟨fn, tm, x, y, hy, hs⟩ := hc
  obtain ⟨v, w', hR, hst⟩ := hs (b.atR a (.inRegion ops (i :: rest) :: k)) cs
  obtain ⟨e, a', cs', w3, hq, harr⟩ := h1 _ _ hR b k hb
  have henter : step P (lone (b.atR a (.inRegion ops (i :: rest) :: k)) cs w) = .next (lone (Frame.round l fn tm x y .normal) (b.atR a (.inRegion ops (i :: rest) :: k) :: cs) w) :=
    step_lone_go (by rw [stepGR_op ho hw, sem_at hb hn]; simp [stepG.apply, hr, hy])
  refine ⟨e, a', cs', w3, hq, .of_steps (.head henter ?_) harr⟩
  rw [← fin_at ho]; exact hst
def R.heap : R → H | .nor _ _ h => h | .ext _ _ _ h => h | .ret _ _ h => h | .pan _ _ _ h => h
def R.env : R → Env | .nor η _ _ => η | .ext _ η _ _ => η | .ret η _ _ => η | .pan _ η _ _ => η
def R.ds : R → V | .nor _ d _ => d | .ext _ _ d _ => d | .ret _ d _ => d | .pan _ _ d _ => d
/-- The deferred calls of a frame. -/
def DSs (ρ : Rho) : V → List Deferred → Prop
  | .nil, [] => True
  | .cons (.fn f args .nil) t, d :: ds => (∃ cap, d.target = .fn (.func f) cap ∧ DV ρ args (LV (d.args ++ cap).toList)) ∧ DSs ρ t ds
  | .cons (.yld b) t, d :: ds => (∃ l, ρ b = some l ∧ d.target = .collected l.blk) ∧ DSs ρ t ds
  | _, _ => False
theorem DSs.mono {ρ σ : Rho} (hl : Rho.le ρ σ) : ∀ {v : V} {ds : List Deferred}, DSs ρ v ds → DSs σ v ds
  | .nil, [], _ => trivial
  | .cons (.fn f args .nil) t, d :: ds, h => by
    obtain ⟨⟨cap, a, b⟩, k⟩ := h
    exact ⟨⟨cap, a, b.mono hl⟩, DSs.mono hl k⟩
  | .cons (.yld b) t, d :: ds, h => by
    obtain ⟨⟨l, a, c⟩, k⟩ := h
    exact ⟨⟨l, hl _ _ a, c⟩, DSs.mono hl k⟩
/-- A state of a frame. -/
structure SR (P : Program) (N : Nat) (ρ : Rho) (η : Env) (ds : V) (h : H) (a : Act) (w : World) : Prop where
  er : ER ρ η a
  hr : HR P ρ h w
  df : DSs ρ ds a.defers
  sz : N ≤ a.tmps.size
/-- What is thrown. -/
def ChOk (ρ : Rho) (v : V) (ch : List PanicEntry) : Prop := ∃ x old, ch = { v := x, recovered := false } :: old ∧ DV ρ v x ∧ ∀ e ∈ old, e.goexit = false
theorem ChOk.mono {ρ σ : Rho} (hl : Rho.le ρ σ) {v : V} {ch : List PanicEntry} (h : ChOk ρ v ch) : ChOk σ v ch := let ⟨x, o, a, b, c⟩ := h; ⟨x, o, a, b.mono hl, c⟩
def RX (σ : Rho) : R → Exit → Prop
  | .nor _ _ _, e => e = .normal
  | .ext id _ _ _, e => e = .exit id
  | .ret _ _ _, e => e = .ret
  | .pan v _ _ _, e => ∃ ch, e = .panic ch ∧ ChOk σ v ch
def RQ (P : Program) (N : Nat) (ρ : Rho) (h : H) (w : World) (CS : Bool → List Frame) (x : R × Bool) : Exit → Act → List Frame → World → Prop :=
  fun e a' cs' w' => ∃ σ, SR P N σ x.1.env x.1.ds x.1.heap a' w' ∧ St ρ h w σ x.1.heap w' ∧ cs' = CS x.2 ∧ RX σ x.1 e
theorem RQ.from {N : Nat} {ρ σ : Rho} {h h' : H} {w w' : World} {CS : Bool → List Frame} {x : R × Bool} (s : St ρ h w σ h' w') {e : Exit} {a : Act} {cs : List Frame} {w2 : World} (q : RQ P N σ h' w' CS x e a cs w2) : RQ P N ρ h w CS x e a cs w2 :=
  let ⟨τ, a1, a2, a3, a4⟩ := q; ⟨τ, a1, s.trans a2, a3, a4⟩
/-- What recover answers. -/
def PnOk (kd : KD) (CS : Bool → List Frame) (ρ : Rho) : Option (Option V) → Prop
  | none => kd = .normal ∨ ∃ l, kd = .round l
  | some none => kd = .deferred ∧ ∀ q, recoverD (CS q) = none
  | some (some v) => kd = .deferred ∧ recoverD (CS true) = none ∧ ∃ x, DV ρ v x ∧ recoverD (CS false) = some (x, CS true)
theorem PnOk.mono {kd : KD} {CS : Bool → List Frame} {ρ σ : Rho} (hl : Rho.le ρ σ) : ∀ {pn : Option (Option V)}, PnOk kd CS ρ pn → PnOk kd CS σ pn
  | none, h => h
  | some none, h => h
  | some (some v), h => let ⟨a, b, x, c, d⟩ := h; ⟨a, b, x, c.mono hl, d⟩
def E.heap : E → H | .ret _ h _ => h | .pan _ h _ => h
/-- How a call ends. -/
def ENor (P : Program) (ρ : Rho) (h : H) (w : World) (e : E) : Ending → World → Prop := fun en w' => ∃ σ, HR P σ e.heap w' ∧ St ρ h w σ e.heap w' ∧ match e with
  | .ret v _ _ => ∃ x, en = .returned x ∧ DV σ v x
  | .pan v _ _ => ∃ ch, en = .panicked ch ∧ ChOk σ v ch
def CallN (P : Program) (call : Call) : Prop := ∀ f args h e, call.c none f args h = .ok e → ∀ (ρ : Rho) (xs : List Value) (w : World), Gl ρ → HR P ρ h w → DV ρ args (LV xs) → Calls P f xs.toArray w (ENor P ρ h w e)
def CallR (P : Program) (call : Call) : Prop := ∀ b args h e, call.r b args h = .ok e → ∀ (ρ : Rho) (l : Loc) (xs : List Value) (w : World), Gl ρ → HR P ρ h w → ρ b = some l → DV ρ args (LV xs) → Rounds P l.blk xs.toArray w (ENor P ρ h w e)
def CallB (P : Program) (call : Call) : Prop := CallN P call ∧ CallR P call
/-- Registers, one of them set. -/
theorem ER.put {ρ : Rho} {η : Env} {a : Act} (he : ER ρ η a) {N : Nat} (hs : N ≤ a.tmps.size) {dst : Option Nat} (hd : ∀ d, dst = some d → d < N) {v : V} {x : Value} (hv : DV ρ v x) : ER ρ (putD η dst v) (a.put dst x) := by
  cases dst with
  | none => exact he
  | some d =>
    intro t u hu
    have hlt : d < a.tmps.size := Nat.lt_of_lt_of_le (hd d rfl) hs
    have hu' : (η.set (key d) v).get (key t) = some u := hu
    rw [T.get_set] at hu'
    show ∃ x', (a.tmps.setIfInBounds d x)[t]? = some x' ∧ DV ρ u x'
    by_cases e : key t = key d
    · have e' := key_inj e; subst e'
      rw [if_pos rfl] at hu'
      injection hu' with hu'; subst hu'
      refine ⟨x, ?_, hv⟩
      rw [Array.getElem?_setIfInBounds, if_pos rfl, if_pos hlt]
    · rw [if_neg e] at hu'
      obtain ⟨y, h1, h2⟩ := he t u hu'
      refine ⟨y, ?_, h2⟩
      rw [Array.getElem?_setIfInBounds, if_neg (fun q => e (by rw [q]))]
      exact h1
theorem put_size (a : Act) (dst : Option Nat) (x : Value) : (a.put dst x).tmps.size = a.tmps.size := by cases dst <;> simp [Act.put]
theorem put_defers (a : Act) (dst : Option Nat) (x : Value) : (a.put dst x).defers = a.defers := by cases dst <;> rfl
theorem undef_dv (ρ : Rho) : DV ρ (.tup .nil) undef := DV.tup (xs := []) .nil
theorem SR.put {N : Nat} {ρ σ : Rho} {η : Env} {ds : V} {h h' : H} {a : Act} {w w' : World} (s : SR P N ρ η ds h a w) (hl : Rho.le ρ σ) (hr : HR P σ h' w') {dst : Option Nat} (hd : ∀ d, dst = some d → d < N) {v : V} {x : Value} (hv : DV σ v x) : SR P N σ (putD η dst v) ds h' (a.put dst x) w' :=
  ⟨(s.er.mono hl).put s.sz hd hv, hr, by rw [put_defers]; exact s.df.mono hl, by rw [put_size]; exact s.sz⟩
theorem wanted_ok {ρ : Rho} {η : Env} {a : Act} {ops : Array Oper} (he : ER ρ η a) {o : Oper} {y : Bool} (h : wantedB ops.toList η o.guard = .ok y) : Region.wanted o (yielded ops a.tmps) = y := by
  unfold wantedB at h
  unfold Region.wanted
  split at h
  · rename_i hg
    rw [hg]; exact okinj h
  · rename_i j want hg
    rw [hg]
    show (yielded ops a.tmps j == some want) = y
    have hj : ops.toList[j]? = ops[j]? := by simp
    rw [hj] at h
    unfold yielded
    split at h
    · rename_i d hd
      rw [hd]
      show ((match a.tmps[d]? with | some (.bool b) => some b | _ => none) == some want) = y
      unfold wantV at h
      split at h
      · rename_i b hb
        obtain ⟨x, h1, h2⟩ := he d _ hb
        cases h2
        rw [h1, ← okinj h]
        cases b <;> cases want <;> rfl
      · rename_i hb
        obtain ⟨x, h1, h2⟩ := he d _ hb
        cases h2 with
        | @tup _ xs h3 =>
        rw [h1, ← okinj h]; rfl
      · cases h
    · rename_i hd
      rw [hd, ← okinj h]; rfl
/-- A region whose order is the text's. -/
theorem reg_ok (ng : NG P) (ex : ExtOk P) {call : Call} (hc : CallB P call) {N : Nat} {kd : KD} {CS : Bool → List Frame} {pn : Option (Option V)} {ops : Array Oper} :
    ∀ (l : List Oper) (i : Nat), ops.toList.drop i = l → (∀ o ∈ l, (∀ d, o.dst = some d → d < N) ∧ Fr kd o) → ∀ (η : Env) (ds : V) (h : H) (q : Bool) (r : R × Bool), reg P ops.toList call pn l η ds h q = .ok r →
      ∀ (ρ : Rho) (a : Act) (w : World), Gl ρ → SR P N ρ η ds h a w → PnOk kd CS ρ pn → GO P kd ops (RQ P N ρ h w CS r) (List.range' i l.length) a (CS q) w
  | [], i, hl, _, η, ds, h, q, r, e, ρ, a, w, hg, s, pk => by
    rw [← okinj (show O.ok (R.nor η ds h, q) = .ok r from e)]
    exact GO.nil ⟨ρ, s, St.refl _ _ _, rfl, rfl⟩
  | o :: rest, i, hl, hd, η, ds, h, q, r, e, ρ, a, w, hg, s, pk => by
    have hi : ops[i]? = some o := by
      have h1 : (ops.toList.drop i)[0]? = some o := by rw [hl]; rfl
      rw [List.getElem?_drop] at h1
      simpa using h1
    have hl' : ops.toList.drop (i + 1) = rest := by
      rw [← List.drop_drop, hl]; rfl
    have hdr := fun o' ho' => hd o' (List.mem_cons_of_mem _ ho')
    obtain ⟨hdo, hfr⟩ := hd o List.mem_cons_self
    have IH := reg_ok ng ex hc (N := N) (kd := kd) (CS := CS) (pn := pn) (ops := ops) rest (i + 1) hl' hdr
    have hr' : List.range' i (o :: rest).length = i :: List.range' (i + 1) rest.length := by simp [List.range'_succ]
    rw [hr']
    have e' : regS P ops.toList call pn o (reg P ops.toList call pn rest) η ds h q = .ok r := e
    unfold regS at e'
    obtain ⟨y, hy, e1⟩ := bnd_ok e'
    have hw := wanted_ok s.er hy
    cases y with
    | false =>
      exact GO.pass hi hw (IH _ _ _ _ _ (show reg P ops.toList call pn rest (delD η o.dst) ds h q = .ok r from e1) ρ _ w hg (s.put (Rho.le_refl _) s.hr hdo (undef_dv ρ)) pk)
    | true =>
    obtain ⟨nx, hn, e2⟩ := bnd_ok (show (evOp P o η h).bnd _ = .ok r from e1)
    have ok := evOp_ok ng ex s.er hg s.hr hn
    have sv : ∀ {σ : Rho} {w' : World} {h' : H} {Q' : Exit → Act → List Frame → World → Prop}, St ρ h w σ h' w' → GO P kd ops (RQ P N σ h' w' CS r) (List.range' (i + 1) rest.length) a (CS q) w' → True := fun _ _ => trivial
    have gomono : ∀ {σ : Rho} {w' : World} {h' : H} {l : List Nat} {a' : Act} {cs : List Frame} {w2 : World}, St ρ h w σ h' w' → GO P kd ops (RQ P N σ h' w' CS r) l a' cs w2 → GO P kd ops (RQ P N ρ h w CS r) l a' cs w2 :=
      fun st g b k hb => let ⟨e, a', cs', w', q', r'⟩ := g b k hb; ⟨e, a', cs', w', q'.from st, r'⟩
    unfold afterOp at e2
    cases nx with
    | val v h' =>
      obtain ⟨σ, x, w', h1, h2, h3, h4⟩ := ok
      exact GO.value hfr hi hw h1 (gomono h4 (IH _ _ _ _ _ e2 σ _ w' (hg.mono h4.le) (s.put h4.le h3 hdo h2) (pk.mono h4.le)))
    | skip h' =>
      obtain ⟨σ, w', h1, h3, h4⟩ := ok
      exact GO.skip hfr hi hw h1 (gomono h4 (IH _ _ _ _ _ e2 σ _ w' (hg.mono h4.le) (s.put h4.le h3 hdo (undef_dv σ)) (pk.mono h4.le)))
    | enter f args h' =>
      obtain ⟨rfl, xs, h1, h2⟩ := ok
      obtain ⟨ee, he, e3⟩ := bnd_ok (show (call.c none f args h').bnd _ = .ok r from e2)
      have cl := hc.1 f args h' ee he ρ xs w hg s.hr h2
      unfold afterCall at e3
      cases ee with
      | ret v h2 rc =>
        refine GO.enter hfr hi hw h1 cl (fun x w2 hR => ?_) (fun ch w2 hR => ?_) (fun w2 hR => ?_)
        · obtain ⟨σ, k1, k2, y, k3, k4⟩ := hR
          injection k3 with k3; subst k3
          exact gomono k2 (IH _ _ _ _ _ e3 σ _ w2 (hg.mono k2.le) (s.put k2.le k1 hdo k4) (pk.mono k2.le))
        · obtain ⟨σ, k1, k2, y, k3, k4⟩ := hR; cases k3
        · obtain ⟨σ, k1, k2, y, k3, k4⟩ := hR; cases k3
      | pan v h2 rc =>
        rw [← okinj (show O.ok (R.pan v η ds h2, q) = .ok r from e3)]
        refine GO.enter hfr hi hw h1 cl (fun x w2 hR => ?_) (fun ch w2 hR => ?_) (fun w2 hR => ?_)
        · obtain ⟨σ, k1, k2, y, k3, k4⟩ := hR; cases k3
        · obtain ⟨σ, k1, k2, y, k3, k4⟩ := hR
          injection k3 with k3; subst k3
          exact ⟨σ, ⟨s.er.mono k2.le, k1, s.df.mono k2.le, s.sz⟩, k2, rfl, _, rfl, k4⟩
        · obtain ⟨σ, k1, k2, y, k3, k4⟩ := hR; cases k3
    | round b args h' =>
      obtain ⟨rfl, l, xs, hl, h2, h1⟩ := ok
      obtain ⟨ee, he, e3⟩ := bnd_ok (show (call.r b args h').bnd _ = .ok r from e2)
      have cl := hc.2 b args h' ee he ρ l xs w hg s.hr hl h2
      unfold afterCall at e3
      cases ee with
      | ret v h2 rc =>
        refine GO.round hfr hi hw h1 cl (fun x w2 hR => ?_)
        obtain ⟨σ, k1, k2, y, k3, k4⟩ := hR
        injection k3 with k3; subst k3
        exact gomono k2 (IH _ _ _ _ _ e3 σ _ w2 (hg.mono k2.le) (s.put k2.le k1 hdo k4) (pk.mono k2.le))
      | pan v h2 rc =>
        obtain ⟨_, _, _, _, _, hs⟩ := cl
        obtain ⟨_, _, ⟨σ, k1, k2, y, k3, k4⟩, _⟩ := hs default []
        cases k3
    | defer f args h' =>
      obtain ⟨rfl, d, cap, xs, h1, h2, h3, h4⟩ := ok
      refine GO.defer hfr hi hw h1 (IH _ _ _ _ _ e2 ρ _ w hg ?_ pk)
      have s' : SR P N ρ η (.cons (.fn f args .nil) ds) h' { a with defers := d :: a.defers } w := ⟨s.er, s.hr, ⟨⟨cap, h2, by rw [h3]; exact h4⟩, s.df⟩, s.sz⟩
      exact s'.put (Rho.le_refl _) s.hr hdo (undef_dv ρ)
    | recover h' =>
      obtain ⟨rfl, h1⟩ := ok
      rcases pn with _ | _ | v
      · cases e2
      · obtain ⟨rfl, hq⟩ := pk
        exact GO.recover0 hi hw h1 (hq q) (IH _ _ _ _ _ e2 ρ _ w hg (s.put (Rho.le_refl _) s.hr hdo .nili) ⟨rfl, hq⟩)
      · obtain ⟨rfl, hq, x, hx, hq2⟩ := pk
        cases q with
        | true => exact GO.recover0 hi hw h1 hq (IH _ _ _ _ _ e2 ρ _ w hg (s.put (Rho.le_refl _) s.hr hdo .nili) ⟨rfl, hq, x, hx, hq2⟩)
        | false => exact GO.recover hi hw h1 hq2 (IH _ _ _ _ _ e2 ρ _ w hg (s.put (Rho.le_refl _) s.hr hdo hx) ⟨rfl, hq, x, hx, hq2⟩)
    | pan v h' =>
      obtain ⟨rfl, x, h1, h2⟩ := ok
      rw [← okinj (show O.ok (R.pan v η ds h', q) = .ok r from e2)]
      exact GO.panic hfr hi hw h1 ⟨ρ, s, St.refl _ _ _, rfl, _, rfl, x, [], rfl, h2, fun e he => by cases he⟩
end Ex
namespace Ex
open Go Go.MapKept
variable [Base] {P : Program}
theorem bifand {a b : Bool} (h : (bif a then b else false) = true) : a = true ∧ b = true := by
  cases a with
  | false => cases h
  | true => exact ⟨rfl, h⟩
theorem opsOk_all {rd : Bool} {N : Nat} : ∀ {l : List Oper}, opsOk rd N l = true → ∀ o ∈ l, (∀ d, o.dst = some d → d < N) ∧ (bif rd then deferB o.op else false) = false
  | [], _, o, ho => by cases ho
  | x :: r, h, o, ho => by
    obtain ⟨hx, hr⟩ := bifand (show (bif dstOk rd N x then opsOk rd N r else false) = true from h)
    cases ho with
    | head =>
      unfold dstOk at hx
      cases hf : (bif rd then deferB x.op else false) with
      | true => rw [hf] at hx; cases hx
      | false =>
        rw [hf] at hx
        refine ⟨fun d hd => ?_, rfl⟩
        have hx' : (match x.dst with | some d => Nat.blt d N | none => true) = true := hx
        rw [hd] at hx'
        exact ble_le (show Nat.ble (d + 1) N = true from hx')
    | tail _ ho => exact opsOk_all hr o ho
theorem nor_of {σ : Rho} {r : R} (h : RX σ r .normal) : ∃ η ds h, r = .nor η ds h := by
  cases r with
  | nor η ds hh => exact ⟨η, ds, hh, rfl⟩
  | ext id η ds hh => exact Exit.noConfusion h
  | ret η ds hh => exact Exit.noConfusion h
  | pan v η ds hh => obtain ⟨c, h1, _⟩ := h; cases h1
theorem seq_split {ih : EvT} {y : Code} {r1 r : R × Bool} (h : evSeq ih y r1 = .ok r) : (∃ η ds hh, r1.1 = .nor η ds hh ∧ ih y η ds hh r1.2 = .ok r) ∨ (r = r1 ∧ ∀ η ds hh, r1.1 ≠ .nor η ds hh) := by
  unfold evSeq at h
  obtain ⟨x, q⟩ := r1
  cases x with
  | nor η ds hh => exact .inl ⟨η, ds, hh, rfl, h⟩
  | ext id η ds hh => exact .inr ⟨(okinj h).symm, fun _ _ _ e => by cases e⟩
  | ret η ds hh => exact .inr ⟨(okinj h).symm, fun _ _ _ e => by cases e⟩
  | pan v η ds hh => exact .inr ⟨(okinj h).symm, fun _ _ _ e => by cases e⟩
theorem rx_nor {σ : Rho} {r : R} {η : Env} {ds : V} {h : H} (e : r = .nor η ds h) {x : Exit} (k : RX σ r x) : x = .normal := by subst e; exact k
theorem GW.from {kd : KD} {N : Nat} {ρ σ : Rho} {h h' : H} {w w' : World} {CS : Bool → List Frame} {x : R × Bool} {c : Code} {a : Act} {cs : List Frame} {w2 : World} (s : St ρ h w σ h' w') (q : GW P kd c (RQ P N σ h' w' CS x) a cs w2) : GW P kd c (RQ P N ρ h w CS x) a cs w2 :=
  q.mono fun _ _ _ _ k => k.from s
theorem GL.from {kd : KD} {N : Nat} {ρ σ : Rho} {h h' : H} {w w' : World} {CS : Bool → List Frame} {x : R × Bool} {c : Code} {a : Act} {cs : List Frame} {w2 : World} (s : St ρ h w σ h' w') (q : GL P kd c (RQ P N σ h' w' CS x) a cs w2) : GL P kd c (RQ P N ρ h w CS x) a cs w2 :=
  fun b k hb => let ⟨e, a', cs', w', y, r⟩ := q b k hb; ⟨e, a', cs', w', y.from s, r⟩
/-- A loop's record is written. -/
theorem HR.loop {ρ : Rho} {h : H} {w : World} (r : HR P ρ h w) {b : K} {ε : Env} {ps : Array Nat} {x y : Code} {st : Nat} {pd : Option Code} {l : Loc} (hg : h.get b = some (.loop ε ps x y st pd)) (hl : ρ b = some l) :
    ∃ fn tm d N, w.heap[l.blk]? = some (.loop { state := stOf st, pending := pd, fn := fn, tmps := tm, params := ps, assign := x, body := y, defers := d }) ∧ (∀ t v, ε.get (key t) = some v → ∃ z, tm[t]? = some z ∧ DV ρ v z) ∧ N ≤ tm.size ∧ psOk N ps.toList = true ∧ codeOk N true x = true ∧ codeOk N true y = true ∧
      ∀ st' pd', HR P ρ (h.set b (.loop ε ps x y st' pd')) (w.putObj l.blk (.loop { state := stOf st', pending := pd', fn := fn, tmps := tm, params := ps, assign := x, body := y, defers := d })) ∧
        St ρ h w ρ (h.set b (.loop ε ps x y st' pd')) (w.putObj l.blk (.loop { state := stOf st', pending := pd', fn := fn, tmps := tm, params := ps, assign := x, body := y, defers := d })) := by
  obtain ⟨l', hl', ho⟩ := r.ob _ _ hg
  rw [hl] at hl'; injection hl' with hl'; subst hl'
  obtain ⟨fn, tm, d, N, h1, h2, h3, h4, h5, h6⟩ := ho
  refine ⟨fn, tm, d, N, h1, h2, h3, h4, h5, h6, fun st' pd' => ⟨?_, ?_⟩⟩
  · refine r.set _ hg hl rfl World.putObj_size (fun k hk => World.putObj_heap_other hk) ?_
    exact ⟨fn, tm, d, N, World.putObj_heap_same (r.lt _ _ _ hg hl), h2, h3, h4, h5, h6⟩
  · exact St.set r _ hg hl rfl World.putObj_size (fun k hk => World.putObj_heap_other hk) rfl rfl rfl
theorem stOf_busy {n : Nat} (h : Nat.beq n 1 = false) : stOf n ≠ .busy := by
  intro e
  match n, h, e with
  | 0, _, e => cases e
  | 1, h, _ => cases h
  | 2, _, e => cases e
  | n + 3, _, e => cases e
/-- A range over a function. -/
theorem rf_ok (ng : NG P) (ex : ExtOk P) {call : Call} (hc : CallB P call) {N : Nat} {kd : KD} {CS : Bool → List Frame} {f : Operand} {ps : Array Nat} {x y : Code} (hrd : kd.rd = false) (hp : psOk N ps.toList = true) (hx : codeOk N true x = true) (hy : codeOk N true y = true)
    {η : Env} {ds : V} {h : H} {q : Bool} {r : R × Bool} {fv : V} (e1 : opd η f = .ok fv) (e : rfS P call ps x y η ds h q fv = .ok r) {ρ : Rho} {a : Act} {w : World} (hg : Gl ρ) (s : SR P N ρ η ds h a w) : GW P kd (.rangeFunc f ps x y) (RQ P N ρ h w CS r) a (CS q) w := by
  intro b k hb
  have hro : b.roundOf = none := by
    cases kd with
    | normal => exact hb.2
    | deferred => exact hb.2
    | round l => cases hrd
  have hf := opd_ok s.er hg e1
  generalize hq : a.eval f = fx at hf
  unfold rfS at e
  split at e
  · cases hf with
    | @fn _ _ xs ys _ hxs hys =>
    rename_i g first cap
    obtain ⟨nx, e2, e3⟩ := bnd_ok e
    unfold rfCall at e3
    split at e3
    · rename_i g' args' h'
      obtain ⟨ee, e4, e5⟩ := bnd_ok e3
      have hr1 := s.hr.new (w' := w.alloc (.deferred (some []))) .dfr ⟨w.heap.size, 0, 0⟩ rfl (by show (w.heap.push _).size = _; simp) (fun k hk => by show (w.heap.push _)[k]? = _; simp [Array.getElem?_push, Nat.ne_of_lt hk]) (World.alloc_heap_new _ _)
      have hs1 := St.new (w' := w.alloc (.deferred (some []))) s.hr .dfr ⟨w.heap.size, 0, 0⟩ rfl (by show (w.heap.push _).size = _; simp) (fun k hk => by show (w.heap.push _)[k]? = _; simp [Array.getElem?_push, Nat.ne_of_lt hk]) rfl rfl rfl
      generalize hw1 : w.alloc (.deferred (some [])) = w1 at hr1 hs1
      have hsz1 : w1.heap.size = w.heap.size + 1 := by rw [← hw1]; show (w.heap.push _).size = _; simp
      generalize hρ1 : ρ.put h.next ⟨w.heap.size, 0, 0⟩ = ρ1 at hr1 hs1
      have hb1 : ρ1 h.next = some ⟨w.heap.size, 0, 0⟩ := by rw [← hρ1]; exact Rho.put_same _ _ _
      have hl2 : Rho.le ρ1 (ρ1.put (h.new .dfr).next ⟨w1.heap.size, 0, 0⟩) := Rho.put_le (hr1.fresh _ (Nat.le_refl _))
      have hr2 := hr1.new (w' := w1.alloc (.loop { state := .ready, pending := none, fn := b.fn, tmps := a.tmps, params := ps, assign := x, body := y, defers := w.heap.size })) (.loop η ps x y 0 none) ⟨w1.heap.size, 0, 0⟩ rfl (by show (w1.heap.push _).size = _; simp) (fun k hk => by show (w1.heap.push _)[k]? = _; simp [Array.getElem?_push, Nat.ne_of_lt hk])
        ⟨b.fn, a.tmps, w.heap.size, N, World.alloc_heap_new _ _, fun t v ht => let ⟨z, p1, p2⟩ := s.er t v ht; ⟨z, p1, (p2.mono hs1.le).mono hl2⟩, s.sz, hp, hx, hy⟩
      have hs2 := St.new (w' := w1.alloc (.loop { state := .ready, pending := none, fn := b.fn, tmps := a.tmps, params := ps, assign := x, body := y, defers := w.heap.size })) hr1 (.loop η ps x y 0 none) ⟨w1.heap.size, 0, 0⟩ rfl (by show (w1.heap.push _).size = _; simp) (fun k hk => by show (w1.heap.push _)[k]? = _; simp [Array.getElem?_push, Nat.ne_of_lt hk]) rfl rfl rfl
      generalize hw2 : w1.alloc (.loop { state := .ready, pending := none, fn := b.fn, tmps := a.tmps, params := ps, assign := x, body := y, defers := w.heap.size }) = w2 at hr2 hs2
      generalize hρ2 : ρ1.put (h.new .dfr).next ⟨w1.heap.size, 0, 0⟩ = ρ2 at hr2 hs2 hl2
      have hb2 : ρ2 (h.new .dfr).next = some ⟨w1.heap.size, 0, 0⟩ := by rw [← hρ2]; exact Rho.put_same _ _ _
      have hs12 := hs1.trans hs2
      have hg2 := hg.mono hs12.le
      have hargs : DV ρ2 ((first.app (.cons (.yld (h.new .dfr).next) .nil)).app cap) (LV ((xs ++ [.func (.yield w1.heap.size) #[] #[]]) ++ ys)) :=
        ((hxs.mono hs12.le).app (.cons (.yld hb2) .nil)).app (hys.mono hs12.le)
      have hcf := callF_ok ng ex hg2 hr2 hargs e2
      obtain ⟨rfl, zs, hrun, hz⟩ := hcf
      have cl := hc.1 g' args' _ ee e4 ρ2 zs w2 hg2 hr2 hz
      have hent : (Instr.enterLoop b.fn a.tmps ps x y b.roundOf).run P w = .ok (w1.heap.size, [{ target := .collected w.heap.size, args := #[] }]) w2 := by
        rw [hro, run_enterLoop_outer, hw1, hw2, hsz1]
      have hres : (resolve a.eval (rangeCall f w1.heap.size) 0).run P w2 = .ok { target := .fn (.func g) ys.toArray, args := xs.toArray ++ #[.func (.yield w1.heap.size) #[] #[]] } w2 := by
        rw [resolve_value rfl, hq]; simp [Deferred.ofValue, Act.eval]
      have hinv : (invoke (.fn (.func g) ys.toArray) (xs.toArray ++ #[.func (.yield w1.heap.size) #[] #[]])).run P w2 = .ok (.enter g' zs.toArray) w2 := by
        rw [← hrun]
        show (callFunc g _).run P w2 = (callFunc g _).run P w2
        congr 2
        apply Array.ext'; simp
      have henter := stepR_rangeFunc (P := P) (b := b) (a := a) (k := k) (cs := CS q) (w := w) hent hres hinv
      obtain ⟨en, w3, fr, hR, hsteps, _, hleave⟩ := cl (b.atR { a with defers := [{ target := .collected w.heap.size, args := #[] }] ++ a.defers } (.inRangeFunc w1.heap.size :: k) :: CS q)
      obtain ⟨σ, k1, k2, k3⟩ := hR
      have hle := Rho.le_trans hs12.le k2.le
      have hdf : DSs σ (.cons (.yld h.next) ds) ([{ target := .collected w.heap.size, args := #[] }] ++ a.defers) := ⟨⟨⟨w.heap.size, 0, 0⟩, k2.le _ _ (hl2 _ _ hb1), rfl⟩, s.df.mono hle⟩
      unfold rfRet at e5
      cases ee with
      | ret v h3 rc =>
        obtain ⟨z, rfl, hz'⟩ := k3
        have e6 : rfEnd h.next (h.new .dfr).next η ds q h3 = .ok r := e5
        unfold rfEnd at e6
        split at e6
        · rename_i ε ps' x' y' st pd hget
          have hb2' : σ (h.new .dfr).next = some ⟨w1.heap.size, 0, 0⟩ := k2.le _ _ hb2
          obtain ⟨fn', tm', d', N', m1, m2, m3, m4, m5, m6, m7⟩ := k1.loop hget hb2'
          cases hst : Nat.beq st 1 with
          | true => rw [hst] at e6; cases e6
          | false =>
            rw [hst] at e6
            have e7 : rfJump pd η (.cons (.yld h.next) ds) (h3.set (h.new .dfr).next (.loop ε ps' x' y' 3 pd)) q = .ok r := e6
            obtain ⟨n1, n2⟩ := m7 3 pd
            have hend := run_endLoop (P := P) m1 (stOf_busy hst)
            generalize hw4 : w3.putObj w1.heap.size (.loop { state := stOf 3, pending := pd, fn := fn', tmps := tm', params := ps', assign := x', body := y', defers := d' }) = w4 at n1 n2
            have hend' : (Instr.endLoop w1.heap.size).run P w3 = .ok pd w4 := by rw [hend, ← hw4]; rfl
            have sback : Steps P (lone (b.atR a (.code (.rangeFunc f ps x y) :: k)) (CS q) w) (lone (b.atR { a with defers := [{ target := .collected w.heap.size, args := #[] }] ++ a.defers } ((pd.map Item.code).toList ++ k)) (CS q) w4) := by
              refine .head henter (hsteps.trans (.head ?_ (.one (stepR_endRangeFunc hend'))))
              rw [← finish_atR_inRangeFunc w1.heap.size z]; exact step_leave_returned hleave
            have hSR : SR P N σ η (.cons (.yld h.next) ds) (h3.set (h.new .dfr).next (.loop ε ps' x' y' 3 pd)) { a with defers := [{ target := .collected w.heap.size, args := #[] }] ++ a.defers } w4 := ⟨s.er.mono hle, n1, hdf, s.sz⟩
            have hSt := (hs12.trans k2).trans n2
            unfold rfJump at e7
            cases pd with
            | none =>
              rw [← okinj e7]
              exact ⟨.normal, _, _, w4, ⟨σ, hSR, hSt, rfl, rfl⟩, sback⟩
            | some c =>
              cases c <;> try (cases e7; done)
              · rename_i id
                rw [← okinj e7]
                exact ⟨.exit id, _, _, w4, ⟨σ, hSR, hSt, rfl, rfl⟩, k, rfl, sback⟩
              · rw [← okinj e7]
                exact ⟨.ret, _, _, w4, ⟨σ, hSR, hSt, rfl, rfl⟩, k, sback⟩
        · cases e6
      | pan v h3 rc =>
        obtain ⟨ch, rfl, hch⟩ := k3
        rw [← okinj (show O.ok (R.pan v η (.cons (.yld h.next) ds) h3, q) = .ok r from e5)]
        refine ⟨.panic ch, { a with defers := [{ target := .collected w.heap.size, args := #[] }] ++ a.defers }, CS q, w3, ⟨σ, ⟨s.er.mono hle, k1, hdf, s.sz⟩, hs12.trans k2, rfl, ch, rfl, hch⟩, .inRangeFunc w1.heap.size :: k, .head henter (hsteps.trans (.one ?_))⟩
        rw [← Frame.raise_atR]; exact step_leave_panicked hleave
    · cases e3
  · cases e
/-- Drawn regions. -/
def DrawOk (P : Program) (call : Call) : Prop := ∀ (N : Nat) (kd : KD) (CS : Bool → List Frame) (pn : Option (Option V)) (ops : Array Oper) (η : Env) (ds : V) (h : H) (q : Bool) (r : R × Bool), opsOk kd.rd N ops.toList = true →
  regD P call ops η ds h q = .ok r → ∀ (t : Nat) (ρ : Rho) (a : Act) (w : World), Gl ρ → SR P N ρ η ds h a w → PnOk kd CS ρ pn →
    GO P kd ops (RQ P N ρ h w CS r) (Region.schedule (P.follows .mixedOrders) ops t) a (CS q) w
theorem ev_ok (ng : NG P) (ex : ExtOk P) {call : Call} (hc : CallB P call) (hdr : DrawOk P call) {N : Nat} {kd : KD} {CS : Bool → List Frame} {pn : Option (Option V)} : ∀ n,
    (∀ c η ds h q r, codeOk N kd.rd c = true → ev P call pn n c η ds h q = .ok r → ∀ (ρ : Rho) (a : Act) (w : World), Gl ρ → SR P N ρ η ds h a w → PnOk kd CS ρ pn → GW P kd c (RQ P N ρ h w CS r) a (CS q) w) ∧
    (∀ x η ds h q r, codeOk N kd.rd x = true → ev P call pn n (.loop x) η ds h q = .ok r → ∀ (ρ : Rho) (a : Act) (w : World), Gl ρ → SR P N ρ η ds h a w → PnOk kd CS ρ pn → GL P kd x (RQ P N ρ h w CS r) a (CS q) w)
  | 0 => ⟨fun _ _ _ _ _ _ _ e => (by cases (show O.no 130 = .ok _ from e)), fun _ _ _ _ _ _ _ e => (by cases (show O.no 130 = .ok _ from e))⟩
  | n+1 => by
    obtain ⟨I1, I2⟩ := ev_ok ng ex hc hdr (N := N) (kd := kd) (CS := CS) (pn := pn) n
    have L : ∀ x η ds h q r, codeOk N kd.rd x = true → ev P call pn (n+1) (.loop x) η ds h q = .ok r → ∀ (ρ : Rho) (a : Act) (w : World), Gl ρ → SR P N ρ η ds h a w → PnOk kd CS ρ pn → GL P kd x (RQ P N ρ h w CS r) a (CS q) w := by
      intro x η ds h q r hk e ρ a w hg s pk
      have e' : (ev P call pn n x η ds h q).bnd (evSeq (ev P call pn n) (.loop x)) = .ok r := e
      obtain ⟨r1, e1, e2⟩ := bnd_ok e'
      have g1 := I1 x η ds h q r1 hk e1 ρ a w hg s pk
      refine GL.round g1 (fun a' cs' w' hq => ?_) (fun ee a' cs' w' hq hne => ?_)
      · obtain ⟨σ, k1, k2, k3, k4⟩ := hq
        obtain ⟨η', ds', h', hr1⟩ := nor_of k4
        rcases seq_split e2 with ⟨η2, ds2, h2, q1, q2⟩ | ⟨q1, q2⟩
        · rw [q1] at k1 k2
          subst k3
          exact (I2 x η2 ds2 h2 r1.2 r hk q2 σ a' w' (hg.mono k2.le) k1 (pk.mono k2.le)).from k2
        · exact (q2 _ _ _ hr1).elim
      · rcases seq_split e2 with ⟨η2, ds2, h2, q1, q2⟩ | ⟨q1, q2⟩
        · obtain ⟨σ, k1, k2, k3, k4⟩ := hq
          exact (hne (rx_nor q1 k4)).elim
        · rw [q1]; exact hq
    refine ⟨fun c η ds h q r hk e ρ a w hg s pk => ?_, L⟩
    have e' : evS P call pn (ev P call pn n) c η ds h q = .ok r := e
    unfold evS at e'
    split at e'
    · rw [← okinj e']; exact GW.skip ⟨ρ, s, St.refl _ _ _, rfl, rfl⟩
    · rw [← okinj e']; exact GW.label ⟨ρ, s, St.refl _ _ _, rfl, rfl⟩
    · rw [← okinj e']; exact GW.ret ⟨ρ, s, St.refl _ _ _, rfl, rfl⟩
    · rw [← okinj e']; exact GW.exit ⟨ρ, s, St.refl _ _ _, rfl, rfl⟩
    · rename_i x y
      obtain ⟨hk1, hk2⟩ := bifand (show (bif codeOk N kd.rd x then codeOk N kd.rd y else false) = true from hk)
      obtain ⟨r1, e1, e2⟩ := bnd_ok e'
      have g1 := I1 x η ds h q r1 hk1 e1 ρ a w hg s pk
      refine GW.seq g1 (fun a' cs' w' hq => ?_) (fun ee a' cs' w' hq hne => ?_)
      · obtain ⟨σ, k1, k2, k3, k4⟩ := hq
        obtain ⟨η', ds', h', hr1⟩ := nor_of k4
        rcases seq_split e2 with ⟨η2, ds2, h2, q1, q2⟩ | ⟨q1, q2⟩
        · rw [q1] at k1 k2
          subst k3
          exact (I1 y η2 ds2 h2 r1.2 r hk2 q2 σ a' w' (hg.mono k2.le) k1 (pk.mono k2.le)).from k2
        · exact (q2 _ _ _ hr1).elim
      · rcases seq_split e2 with ⟨η2, ds2, h2, q1, q2⟩ | ⟨q1, q2⟩
        · obtain ⟨σ, k1, k2, k3, k4⟩ := hq
          exact (hne (rx_nor q1 k4)).elim
        · rw [q1]; exact hq
    · rename_i c x y
      obtain ⟨hk1, hk2⟩ := bifand (show (bif codeOk N kd.rd x then codeOk N kd.rd y else false) = true from hk)
      obtain ⟨v, e1, e2⟩ := bnd_ok e'
      unfold evCond at e2
      split at e2
      · rename_i t
        have hv := opd_ok s.er hg e1
        generalize hx : a.eval c = xv at hv
        cases hv
        refine GW.cond hx ?_
        cases t with
        | true => exact I1 x η ds h q r hk1 e2 ρ a w hg s pk
        | false => exact I1 y η ds h q r hk2 e2 ρ a w hg s pk
      · cases e2
    · rename_i id x
      obtain ⟨r1, e1, e2⟩ := bnd_ok e'
      have g1 := I1 x η ds h q r1 hk e1 ρ a w hg s pk
      unfold evBlk at e2
      obtain ⟨x1, q1⟩ := r1
      cases x1 with
      | ext j η2 ds2 h2 =>
        cases hj : Nat.beq j id with
        | true =>
          simp only [hj, cond_true] at e2
          have hj' := beq_eq hj
          subst hj'
          rw [← okinj e2]
          refine GW.block g1 (fun a' cs' w' hq => ?_) (fun a' cs' w' hq => ?_) (fun ee a' cs' w' hq hne hne2 => ?_)
          · obtain ⟨σ, k1, k2, k3, k4⟩ := hq; exact Exit.noConfusion k4
          · obtain ⟨σ, k1, k2, k3, k4⟩ := hq; exact ⟨σ, k1, k2, k3, rfl⟩
          · obtain ⟨σ, k1, k2, k3, k4⟩ := hq; exact (hne2 k4).elim
        | false =>
          simp only [hj, cond_false] at e2
          rw [← okinj e2]
          refine GW.block g1 (fun a' cs' w' hq => hq) (fun a' cs' w' hq => ?_) (fun ee a' cs' w' hq hne hne2 => hq)
          obtain ⟨σ, k1, k2, k3, k4⟩ := hq
          injection k4 with k4
          subst k4
          simp at hj
      | nor η2 ds2 h2 =>
        rw [← okinj e2]
        refine GW.block g1 (fun a' cs' w' hq => hq) (fun a' cs' w' hq => ?_) (fun ee a' cs' w' hq hne hne2 => hq)
        obtain ⟨σ, k1, k2, k3, k4⟩ := hq; exact Exit.noConfusion k4
      | ret η2 ds2 h2 =>
        rw [← okinj e2]
        refine GW.block g1 (fun a' cs' w' hq => hq) (fun a' cs' w' hq => ?_) (fun ee a' cs' w' hq hne hne2 => hq)
        obtain ⟨σ, k1, k2, k3, k4⟩ := hq; exact Exit.noConfusion k4
      | pan v η2 ds2 h2 =>
        rw [← okinj e2]
        refine GW.block g1 (fun a' cs' w' hq => hq) (fun a' cs' w' hq => ?_) (fun ee a' cs' w' hq hne hne2 => hq)
        obtain ⟨σ, k1, k2, k3, ch, k4, _⟩ := hq; cases k4
    · rename_i x
      exact GW.scope (I1 x η ds h q r hk e' ρ a w hg s pk)
    · rename_i x
      exact GW.loop (L x η ds h q r hk e ρ a w hg s pk)
    · rename_i f ps x y
      obtain ⟨fv, e1, e2⟩ := bnd_ok e'
      cases hrd : kd.rd with
      | true =>
        have hk2 : codeOk N true (.rangeFunc f ps x y) = true := by have := hk; rw [hrd] at this; exact this
        cases (show false = true from hk2)
      | false =>
        have hk2 : codeOk N false (.rangeFunc f ps x y) = true := by have := hk; rw [hrd] at this; exact this
        obtain ⟨hp, hk3⟩ := bifand (show (bif psOk N ps.toList then (bif codeOk N true x then codeOk N true y else false) else false) = true from hk2)
        obtain ⟨hx, hy⟩ := bifand hk3
        exact rf_ok ng ex hc hrd hp hx hy e1 e2 hg s
    · rename_i id ops d
      cases d with
      | true =>
          refine GW.draw fun t => ?_
          have s' : SR P N ρ η ds h a { w with drawn := w.drawn + 1 } := ⟨s.er, s.hr.drew rfl, s.df, s.sz⟩
          intro b k hb
          obtain ⟨e, a', cs', w', y, r⟩ := hdr N kd CS pn ops η ds h q r hk e' t ρ a { w with drawn := w.drawn + 1 } hg s' pk b k hb
          exact ⟨e, a', cs', w', RQ.from (ρ := ρ) (σ := ρ) (h := h) (h' := h) (w := w) (w' := { w with drawn := w.drawn + 1 }) (St.drew rfl rfl rfl rfl) y, r⟩
      | false =>
        have hl := reg_ok (CS := CS) (kd := kd) ng ex hc ops.toList 0 rfl (opsOk_all hk) η ds h q r e' ρ a w hg s pk
        refine GW.region ?_
        rw [List.range_eq_range']
        simpa using hl
    · cases e'
end Ex
namespace Ex
open Go Go.MapKept
variable [Base] {P : Program}
theorem initEnv_get : ∀ (l : V) (i : Nat) (η : Env) (t : Nat), l.isL → (initEnv l i η).get (key t) = if i ≤ t ∧ t < i + l.toL.length then l.toL[t - i]? else η.get (key t)
  | .nil, i, η, t, _ => by
    show η.get (key t) = _
    rw [if_neg (by simp [V.toL])]
  | .cons h r, i, η, t, hl => by
    show (initEnv r (Nat.succ i) (η.set (key i) h)).get (key t) = _
    rw [initEnv_get r _ _ _ hl, T.get_set]
    by_cases h1 : t = i
    · subst h1
      rw [if_neg (by omega), if_pos rfl, if_pos ⟨Nat.le_refl _, by simp [V.toL]⟩]
      simp [V.toL]
    · rw [if_neg (fun e => h1 (key_inj e))]
      by_cases h2 : i + 1 ≤ t ∧ t < i + 1 + r.toL.length
      · rw [if_pos h2, if_pos ⟨by omega, by simp [V.toL]; omega⟩]
        have : t - i = (t - (i + 1)) + 1 := by omega
        simp [V.toL, this]
      · rw [if_neg h2, if_neg (by simp [V.toL]; omega)]
theorem ER.init {ρ : Rho} {args : V} {xs : List Value} (h : DV ρ args (LV xs)) (n : Nat) : ER ρ (initEnv args 0 .e) { tmps := xs.toArray ++ Array.replicate n undef, defers := [] } := by
  intro t v e
  rw [initEnv_get _ _ _ _ h.lst.1] at e
  by_cases q : 0 ≤ t ∧ t < 0 + args.toL.length
  · rw [if_pos q] at e
    obtain ⟨x, h1, h2⟩ := h.lst.2.get _ _ e
    refine ⟨x, ?_, h2⟩
    have hlt : t < xs.length := by rw [← h.lst.2.len]; omega
    show (xs.toArray ++ Array.replicate n undef)[t]? = some x
    rw [Array.getElem?_append_left (by simpa using hlt)]
    simpa using h1
  · rw [if_neg q] at e
    exfalso
    have : (T.e : Env).get (key t) = none := by cases key t <;> rfl
    rw [this] at e; cases e
/-- Results. -/
def res1 (tmps : Array Value) : ResultVar → Sem Value
  | .tmp t => pure (tmps.getD t undef)
  | .cell a t => do loadVar t (← asAddr (tmps.getD a undef))
theorem resS_ok {N : Nat} {ρ : Rho} {η : Env} {ds : V} {h : H} {a : Act} {w : World} (s : SR P N ρ η ds h a w) : ∀ (l : List ResultVar) (vs : V), resV P h η l = .ok vs → ∃ xs, (l.mapM (res1 a.tmps)).run P w = .ok xs w ∧ DV ρ vs (LV xs)
  | [], vs, e => by
    rw [← okinj (show O.ok V.nil = .ok vs from e)]
    exact ⟨[], rfl, .nil⟩
  | r :: l, vs, e => by
    have e' : resS P h η r (resV P h η l) = .ok vs := e
    unfold resS at e'
    have key : ∀ {v : V} {ys : V} {x : Value}, (res1 a.tmps r).run P w = .ok x w → DV ρ v x → resV P h η l = .ok ys → vs = .cons v ys → ∃ xs, ((r :: l).mapM (res1 a.tmps)).run P w = .ok xs w ∧ DV ρ vs (LV xs) := by
      intro v ys x h1 h2 h3 h4
      obtain ⟨zs, k1, k2⟩ := resS_ok s l ys h3
      subst h4
      refine ⟨x :: zs, ?_, .cons h2 k2⟩
      rw [List.mapM_cons]
      simp only [Sem.run_bind, h1, Result.andThen_ok, k1, Sem.run_pure]
    split at e'
    · rename_i t
      obtain ⟨v, e1, e2⟩ := bnd_ok e'
      obtain ⟨ys, e3, e4⟩ := bnd_ok e2
      obtain ⟨x, k1, k2⟩ := s.er t v (of_ok e1)
      exact key (x := x) (by show Result.ok (a.tmps.getD t undef) w = _; rw [getD_of k1]) k2 e3 (okinj e4).symm
    · rename_i c t
      split at e'
      · rename_i b o hb
        obtain ⟨v, e1, e2⟩ := bnd_ok e'
        obtain ⟨ys, e3, e4⟩ := bnd_ok e2
        obtain ⟨x, k1, k2⟩ := s.er c _ hb
        cases k2 with
        | @ptr _ m _ hm =>
        obtain ⟨y, q1, q2, _⟩ := loadV_ok s.hr hm e1
        refine key (x := y) ?_ q2 e3 (okinj e4).symm
        show ((do loadVar t (← asAddr (a.tmps.getD c undef))) : Sem Value).run P w = .ok y w
        rw [getD_of k1]
        simpa [asAddr] using q1
      · cases e'
theorem one_tup : ∀ {ρ : Rho} {l : V} {xs : List Value}, DV ρ l (LV xs) → DV ρ (oneV l) (if h : xs.toArray.size = 1 then xs.toArray[0] else .tuple xs.toArray)
  | ρ, l, xs, h => by
    obtain ⟨h1, h2⟩ := h.lst
    cases l with
    | nil =>
      cases xs with
      | nil => exact .tup h
      | cons x r => exact h2.elim
    | cons v t =>
      cases xs with
      | nil => exact h2.elim
      | cons x r =>
        obtain ⟨hv, ht⟩ := h2
        cases t with
        | nil =>
          cases r with
          | nil => exact hv
          | cons => exact ht.elim
        | cons v2 t2 =>
          cases r with
          | nil => exact ht.elim
          | cons y r2 =>
            have : ¬ (x :: y :: r2).toArray.size = 1 := by simp
            rw [dif_neg this]
            exact .tup h
        | _ => exact h1.elim
    | _ => exact h1.elim
theorem res_ok {N : Nat} {ρ : Rho} {η : Env} {ds : V} {h : H} {a : Act} {w : World} (s : SR P N ρ η ds h a w) {fn : Func} {l : V} (e : resV P h η fn.results.toList = .ok l) : ∃ x, (results fn a.tmps).run P w = .ok x w ∧ DV ρ (oneV l) x := by
  obtain ⟨xs, h1, h2⟩ := resS_ok s _ _ e
  refine ⟨_, ?_, one_tup h2⟩
  have hf : results fn a.tmps = (do let vs ← fn.results.mapM (res1 a.tmps); pure (if h : vs.size = 1 then vs[0] else .tuple vs)) := by
    unfold results
    congr 1
  rw [hf]
  have hm : fn.results.mapM (res1 a.tmps) = List.toArray <$> fn.results.toList.mapM (res1 a.tmps) := by
    exact Array.mapM_eq_mapM_toList ..
  rw [hm]
  simp only [Sem.run_bind, map_eq_pure_bind, h1, Result.andThen_ok, Sem.run_pure]
/-- How a frame stands that is being left. -/
def MR (ρ : Rho) : Option V → FrameMode → Prop
  | none, u => u = .returning
  | some v, u => ∃ ch, u = .panicking ch ∧ ChOk ρ v ch
theorem MR.mono {ρ σ : Rho} (hl : Rho.le ρ σ) : ∀ {pn : Option V} {u : FrameMode}, MR ρ pn u → MR σ pn u
  | none, _, h => h
  | some _, _, ⟨ch, a, b⟩ => ⟨ch, a, b.mono hl⟩
def recov : FrameMode → FrameMode
  | .panicking (p :: old) => .panicking ({ v := p.v, recovered := true } :: old)
  | m => m
def E.rec' : E → Bool | .ret _ _ r => r | .pan _ _ r => r
def EDef (P : Program) (ρ : Rho) (h : H) (w : World) (u : FrameMode) (e : E) : Ending → FrameMode → World → Prop := fun en u' w' => ENor P ρ h w e en w' ∧ u' = if e.rec' then recov u else u
def CallD (P : Program) (call : Call) : Prop := ∀ pn f args h e, call.c (some pn) f args h = .ok e → (∃ fn b, P.funcs[f]? = some fn ∧ fn.body = some b) ∧ (e.rec' = true → ∃ v, pn = some v) ∧
  ∀ (ρ : Rho) (xs : List Value) (w : World) (u : FrameMode), Gl ρ → HR P ρ h w → DV ρ args (LV xs) → MR ρ pn u → CallsD P f xs.toArray u w (EDef P ρ h w u e)
theorem settle_chain {p : PanicEntry} {old : List PanicEntry} (ho : ∀ e ∈ old, e.goexit = false) : settle (.panicking ({ v := p.v, recovered := true } :: old)) = .returning := by
  have : old.dropWhile (!·.goexit) = [] := by
    induction old with
    | nil => rfl
    | cons x r ih =>
      have hx := ho x List.mem_cons_self
      simp [List.dropWhile, hx]
      exact ih (fun e he => ho e (List.mem_cons_of_mem _ he))
  simp only [settle, this]
theorem MR.settle0 {ρ : Rho} {pn : Option V} {u : FrameMode} (h : MR ρ pn u) : settle u = u := by
  cases pn with
  | none => obtain rfl : u = .returning := h; rfl
  | some v => obtain ⟨ch, rfl, x, old, rfl, _, _⟩ := h; rfl
theorem MR.settle1 {ρ : Rho} {v : V} {u : FrameMode} (h : MR ρ (some v) u) : settle (recov u) = .returning := by
  obtain ⟨ch, rfl, x, old, rfl, _, ho⟩ := h
  exact settle_chain (p := { v := x, recovered := false }) ho
theorem MR.raise {ρ : Rho} {pn : Option V} {u u' : FrameMode} (h : MR ρ pn u) {r : Bool} (hu : u' = if r then recov u else u) {v : V} {ch : List PanicEntry} (hc : ChOk ρ v ch) : MR ρ (some v) (raised u' ch) := by
  obtain ⟨x, old, rfl, hx, ho⟩ := hc
  have key : ∀ old2, (∀ e ∈ old2, e.goexit = false) → MR ρ (some v) (.panicking (({ v := x, recovered := false } :: old) ++ old2)) := fun old2 h2 =>
    ⟨_, rfl, x, old ++ old2, rfl, hx, fun e he => by
      rcases List.mem_append.1 he with q | q
      · exact ho e q
      · exact h2 e q⟩
  cases pn with
  | none =>
    obtain rfl : u = .returning := h
    have : u' = .returning := by rw [hu]; cases r <;> rfl
    subst this
    have := key [] (fun e he => by cases he)
    simpa [raised] using this
  | some v0 =>
    obtain ⟨c0, rfl, x0, old0, rfl, hx0, ho0⟩ := h
    cases r with
    | false =>
      subst hu
      exact key _ (fun e he => by
        cases he with
        | head => rfl
        | tail _ he => exact ho0 e he)
    | true =>
      subst hu
      exact key ({ v := x0, recovered := true } :: old0) (fun e he => by
        cases he with
        | head => rfl
        | tail _ he => exact ho0 e he)
theorem invoke_run (ng : NG P) {d : Deferred} {f : Nat} {cap : Array Value} (hd : d.target = .fn (.func f) cap) {fn : Func} {b : Code} (hf : P.funcs[f]? = some fn) (hb : fn.body = some b) (w : World) : (invoke d.target d.args).run P w = .ok (.enter f (d.args ++ cap)) w := by
  rw [hd]
  have hn := ng f fn hf
  show (callFunc f (d.args ++ cap)).run P w = _
  unfold callFunc
  simp only [Sem.run_bind, run_program, Result.andThen_ok, hf]
  rw [if_neg (by rw [hn]; decide), if_neg (by simp [hb])]
  rfl
theorem ENor.from {ρ σ : Rho} {h h' : H} {w w' : World} {e : E} (s : St ρ h w σ h' w') {en : Ending} {w2 : World} (k : ENor P σ h' w' e en w2) : ENor P ρ h w e en w2 :=
  let ⟨τ, a, b, c⟩ := k; ⟨τ, a, s.trans b, c⟩
theorem DSs.nil_inv {ρ : Rho} : ∀ {ds : V}, DSs ρ ds [] → ds = .nil := by
  intro ds h
  unfold DSs at h
  split at h
  · rfl
  · rename_i e; cases e
  · rename_i e; cases e
  · exact h.elim
theorem DSs.cons_inv {ρ : Rho} {ds : V} {d : Deferred} {r : List Deferred} (h : DSs ρ ds (d :: r)) : (∃ f args t, ds = .cons (.fn f args .nil) t ∧ (∃ cap, d.target = .fn (.func f) cap ∧ DV ρ args (LV (d.args ++ cap).toList)) ∧ DSs ρ t r) ∨
    (∃ b t l, ds = .cons (.yld b) t ∧ ρ b = some l ∧ d.target = .collected l.blk ∧ DSs ρ t r) := by
  unfold DSs at h
  split at h
  · rename_i e; cases e
  · rename_i f args t d' ds' e
    injection e with e1 e2
    subst e1; subst e2
    exact .inl ⟨f, args, t, rfl, h⟩
  · rename_i b t d' ds' e
    injection e with e1 e2
    subst e1; subst e2
    obtain ⟨⟨l, a, c⟩, k⟩ := h
    exact .inr ⟨b, t, l, rfl, a, c, k⟩
  · exact h.elim
/-- A block that is no longer ours is written. -/
theorem HR.gone {ρ : Rho} {h : H} {w w' : World} (r : HR P ρ h w) {b : K} {q : Ob} {l : Loc} (hg : h.get b = some q) (hl : ρ b = some l) (hq : q.rw = true) (hs : w'.heap.size = w.heap.size) (hk : ∀ k, k ≠ l.blk → w'.heap[k]? = w.heap[k]?) : HR P ρ (h.del b) w' := by
  have sub : ∀ {c x}, (h.del b).get c = some x → c ≠ b ∧ h.get c = some x := fun {c x} e => by
    rw [H.get_del] at e
    by_cases k : c = b
    · rw [if_pos k] at e; cases e
    · rw [if_neg k] at e; exact ⟨k, e⟩
  refine ⟨fun c x e => ?_, fun c d o1 o2 l1 l2 e1 e2 a1 a2 eq => r.inj c d o1 o2 l1 l2 (sub e1).2 (sub e2).2 a1 a2 eq, r.fresh, fun c o1 l1 e a => by rw [hs]; exact r.lt c o1 l1 (sub e).2 a, ⟨by rw [hs]; exact r.old.size, fun k hk' => by
    have hb := r.old.wr l.blk ⟨b, q, l, hg, hq, hl, rfl⟩
    rw [hk k (by omega)]; exact r.old.kept k hk', fun k hw => by
    obtain ⟨d, x, m, e, e2, e3, e4⟩ := hw
    exact r.old.wr k ⟨d, x, m, (sub e).2, e2, e3, e4⟩⟩⟩
  obtain ⟨k, e'⟩ := sub e
  obtain ⟨m, a, y⟩ := r.ob c x e'
  exact ⟨m, a, y.heap (hk _ (fun e2 => k ((r.inj c b x q m l e' hg a hl e2).resolve_right fun z => z.n2 hq)))⟩
theorem St.gone {ρ : Rho} {h : H} {w w' : World} {b : K} {q : Ob} {l : Loc} (hg : h.get b = some q) (hl : ρ b = some l) (hq : q.rw = true) (hs : w'.heap.size = w.heap.size) (hk : ∀ k, k ≠ l.blk → w'.heap[k]? = w.heap[k]?)
    (a : w'.os = w.os) (b' : w'.tape = w.tape) (c : w'.output = w.output) : St ρ h w ρ (h.del b) w' := by
  have sub : ∀ {c x}, (h.del b).get c = some x → h.get c = some x := fun {c x} e => by
    rw [H.get_del] at e
    by_cases k : c = b
    · rw [if_pos k] at e; cases e
    · rw [if_neg k] at e; exact e
  refine ⟨Rho.le_refl _, a, b', c, by omega, fun k _ hn => hk k (fun e => hn ⟨b, q, l, hg, hq, hl, e.symm⟩), fun k hw => ?_, Nat.le_refl _, fun d x m e a => .inl ⟨d, x, m, sub e, a, rfl⟩⟩
  obtain ⟨d, x, m, e, e2, e3, e4⟩ := hw
  exact .inl ⟨d, x, m, sub e, e2, e3, e4⟩
/-- What is left to be done when a frame is left: deferred calls, and marks of ranges over functions. -/
def LvM (P : Program) (fn : Func) (tmps : Array Value) (R : Ending → World → Prop) : List Deferred → FrameMode → World → Prop
  | [], u, w => Leaves P fn tmps R [] u w
  | d :: ds, u, w => u ≠ .run ∧ ((∃ r w', d.target = .collected r ∧ (Instr.takeDeferred r).run P w = .ok [] w' ∧ LvM P fn tmps R ds u w') ∨
      ∃ fv cap f args, d.target = .fn fv cap ∧ (invoke d.target d.args).run P w = .ok (.enter f args) w ∧
        CallsD P f args u w fun
          | .returned _, u', w' => LvM P fn tmps R ds (settle u') w'
          | .panicked chain, u', w' => LvM P fn tmps R ds (raised u' chain) w'
          | .outgrown, _, w' => R .outgrown w')
theorem lvM_steps {fn : Func} {tmps : Array Value} {R : Ending → World → Prop} : ∀ (ds : List Deferred) (u : FrameMode) (w : World) (fr : Frame)
    (cs : List Frame), fr.mode = u → fr.defers = ds → fr.tmps = tmps → P.funcs[fr.fn]? = some fn → fr.kind = .normal → LvM P fn tmps R ds u w →
    ∃ e w' fr', R e w' ∧ Comes P (lone fr cs w) (lone fr' cs w') e ∧ fr'.fn = fr.fn ∧ fr'.leaving P w' e := by
  intro ds
  induction ds with
  | nil => exact fun u w fr cs hu hd ht hf hk h => leaves_steps [] u w fr cs hu hd ht hf hk h
  | cons d ds ih =>
    intro u w fr cs hu hd ht hf hk h
    obtain ⟨hrun, ⟨r, w', htar, htake, hrest⟩ | ⟨fv, cap, f, args, htar, hinv, hcall⟩⟩ := h
    · have h1 := step_collected (cs := cs) (hu ▸ hrun) hd htar htake
      obtain ⟨e', w'', fr', hR', hs', hfn', hl'⟩ := ih u w' { fr with defers := [] ++ ds } cs hu rfl ht hf hk hrest
      exact ⟨e', w'', fr', hR', Comes.of_steps (.one h1) hs', hfn', hl'⟩
    · have h1 := step_defer (cs := cs) (hu ▸ hrun) hd htar hinv
      obtain ⟨e, u', w', frX, hR, hsteps, hkX, hgo⟩ := hcall { fr with defers := ds } cs hu
      cases e with
      | returned v =>
        have h2 := step_going_returned (c := { { fr with defers := ds } with mode := u' }) (cs := cs) hkX hgo
        obtain ⟨e', w'', fr', hR', hs', hfn', hl'⟩ := ih (settle u') w' { { { fr with defers := ds } with mode := u' } with mode := settle u' } cs rfl rfl ht hf hk hR
        exact ⟨e', w'', fr', hR', Comes.of_steps (.head h1 (Steps.trans hsteps (.one h2))) hs', hfn', hl'⟩
      | panicked chain =>
        have h2 := step_going_panicked (c := { { fr with defers := ds } with mode := u' }) (cs := cs) hgo
        obtain ⟨e', w'', fr', hR', hs', hfn', hl'⟩ := ih (raised u' chain) w' { { { fr with defers := ds } with mode := u' } with mode := raised u' chain } cs rfl rfl ht hf hk hR
        exact ⟨e', w'', fr', hR', Comes.of_steps (.head h1 (Steps.trans hsteps (.one h2))) hs', hfn', hl'⟩
      | outgrown => exact ⟨.outgrown, w', fr, hR, Outgrown.of_steps (.one h1) hsteps, rfl, trivial⟩
theorem leave_ok (ng : NG P) {call : Call} (hc : CallD P call) {N : Nat} {fn : Func} {η : Env} {q : Bool} {R : Ending → World → Prop} {tmps : Array Value} (defers : List Deferred) :
    ∀ (ds : V) (pn : Option V) (h : H) (e : E), leave P call fn η q ds pn h = .ok e → ∀ (ρ : Rho) (w : World) (u : FrameMode), Gl ρ → SR P N ρ η ds h ⟨tmps, defers⟩ w → MR ρ pn u → (∀ en w', ENor P ρ h w e en w' → R en w') → LvM P fn tmps R defers u w := by
  induction defers with
  | nil =>
    intro ds pn h e he ρ w u hg s hm hR
    obtain rfl := s.df.nil_inv
    have he' : leave0 P fn η q pn h = .ok e := he
    unfold leave0 at he'
    cases pn with
    | none =>
      obtain ⟨l, e1, e2⟩ := bnd_ok he'
      obtain rfl : u = .returning := hm
      obtain ⟨x, k1, k2⟩ := res_ok s e1
      rw [← okinj e2] at hR
      exact ⟨x, k1, hR _ _ ⟨ρ, s.hr, St.refl _ _ _, x, rfl, k2⟩⟩
    | some v =>
      obtain ⟨ch, rfl, hch⟩ := hm
      rw [← okinj he'] at hR
      exact hR _ _ ⟨ρ, s.hr, St.refl _ _ _, ch, rfl, hch⟩
  | cons d ds' ih =>
    intro ds pn h e he ρ w u hg s hm hR
    have hne : u ≠ .run := by
      cases pn with
      | none => obtain rfl : u = .returning := hm; exact fun k => by cases k
      | some v => obtain ⟨ch, rfl, _⟩ := hm; exact fun k => by cases k
    rcases s.df.cons_inv with ⟨f, args, t, rfl, ⟨cap, hd1, hd2⟩, hd3⟩ | ⟨b, t, l, rfl, hl, htar, hd3⟩
    rotate_left
    · have he' : leaveD call (leave P call fn η q t) (.yld b) pn h = .ok e := he
      unfold leaveD at he'
      simp only at he'
      split at he'
      · rename_i hget
        obtain ⟨l', hl', ho⟩ := s.hr.ob _ _ hget
        rw [hl] at hl'; injection hl' with hl'; subst hl'
        have htake := run_takeDeferred (P := P) (show w.heap[l.blk]? = some (.deferred (some [])) from ho)
        have g1 := s.hr.gone (w' := w.putObj l.blk (.deferred none)) hget hl rfl World.putObj_size (fun k hk => World.putObj_heap_other hk)
        have g2 := St.gone (w' := w.putObj l.blk (.deferred none)) hget hl rfl World.putObj_size (fun k hk => World.putObj_heap_other hk) rfl rfl rfl
        exact ⟨hne, .inl ⟨l.blk, _, htar, htake, ih t pn _ e he' ρ _ u hg ⟨s.er, g1, hd3, s.sz⟩ hm (fun en w2 k => hR en w2 (k.from g2))⟩⟩
      · cases he'
    have he' : leaveD call (leave P call fn η q t) (.fn f args .nil) pn h = .ok e := he
    unfold leaveD at he'
    obtain ⟨e1, c1, c2⟩ := bnd_ok he'
    obtain ⟨⟨fn2, b2, hf2, hb2⟩, hrec, hcall⟩ := hc pn f args h e1 c1
    have hi := invoke_run ng hd1 hf2 hb2 w
    have cd := hcall ρ (d.args ++ cap).toList w u hg s.hr hd2 hm
    obtain ⟨tg, dargs⟩ := d
    simp only at hd1 hi cd hd2
    subst hd1
    refine ⟨hne, .inr ⟨_, _, _, _, rfl, hi, ?_⟩⟩
    have harr : (dargs ++ cap).toList.toArray = dargs ++ cap := by simp
    rw [harr] at cd
    refine cd.mono fun en u' w' hE => ?_
    obtain ⟨⟨σ, k1, k2, k3⟩, hu⟩ := hE
    have s' : SR P N σ η t e1.heap ⟨tmps, ds'⟩ w' := ⟨s.er.mono k2.le, k1, hd3.mono k2.le, s.sz⟩
    cases e1 with
    | ret v h2 r =>
      obtain ⟨x, rfl, hx⟩ := k3
      have c3 : leave P call fn η q t (bif r then none else pn) h2 = .ok e := c2
      refine ih t _ h2 e c3 σ w' (settle u') (hg.mono k2.le) s' ?_ (fun en w2 k => hR en w2 (k.from k2))
      cases r with
      | true =>
        obtain ⟨v0, rfl⟩ := hrec rfl
        have : u' = recov u := hu
        subst this
        exact hm.settle1
      | false =>
        have : u' = u := hu
        subst this
        rw [hm.settle0]
        exact hm.mono k2.le
    | pan v h2 r =>
      obtain ⟨ch, rfl, hch⟩ := k3
      have c3 : leave P call fn η q t (some v) h2 = .ok e := c2
      exact ih t _ h2 e c3 σ w' (raised u' ch) (hg.mono k2.le) s' ((hm.mono k2.le).raise hu hch) (fun en w2 k => hR en w2 (k.from k2))
end Ex
namespace Ex
open Go Go.MapKept
variable [Base] {P : Program}
/-- Every function's code writes its own registers alone. -/
def WfP (P : Program) : Prop := ∀ (f : Nat) (fn : Func) (b : Code), P.funcs[f]? = some fn → fn.body = some b → codeOk fn.ntmps false b = true
def bodyPostM (P : Program) (fn : Func) (R : Ending → World → Prop) : Exit → Act → World → Prop
  | .normal, a, w | .ret, a, w => LvM P fn a.tmps R a.defers .returning w
  | .panic chain, a, w => LvM P fn a.tmps R a.defers (.panicking chain) w
  | _, _, _ => False
theorem calls_of_GW {f : FuncId} {fn : Func} {c : Code} {args : Array Value} {w : World} {R : Ending → World → Prop} (hf : P.funcs[f]? = some fn) (hb : fn.body = some c)
    (h : ∀ cs, GW P .normal c (fun e a' cs' w' => cs' = cs ∧ bodyPostM P fn R e a' w') { tmps := args ++ Array.replicate (fn.ntmps - args.size) undef, defers := [] } cs w) : Calls P f args w R := by
  intro cs
  let b : Frame := { (default : Frame) with fn := f, kind := .normal, roundOf := none }
  have henter : Frame.enter P f args .normal =
      b.atR { tmps := args ++ Array.replicate (fn.ntmps - args.size) undef, defers := [] } [.code c] := by
    simp [Frame.enter, Frame.atR, hf, hb, b]
  obtain ⟨e, a', cs', w', ⟨rfl, hq⟩, harr⟩ := h cs b [] ⟨rfl, rfl⟩
  rw [← henter] at harr
  cases e with
  | normal =>
    obtain ⟨e', w'', fr', hR, hs, hfn, hl⟩ := lvM_steps a'.defers .returning w' { b.atR a' [] with mode := .returning } cs' rfl rfl rfl hf rfl hq
    exact ⟨e', w'', fr', hR, Comes.of_steps (Steps.trans harr (.one (stepR_end rfl))) hs, hfn, hl⟩
  | ret =>
    obtain ⟨k1, hs0⟩ := harr
    obtain ⟨e', w'', fr', hR, hs, hfn, hl⟩ := lvM_steps a'.defers .returning w' { b.atR a' (.code .ret :: k1) with mode := .returning } cs' rfl rfl rfl hf rfl hq
    exact ⟨e', w'', fr', hR, Comes.of_steps (Steps.trans hs0 (.one (stepR_ret rfl))) hs, hfn, hl⟩
  | panic chain =>
    obtain ⟨todo, hs0⟩ := harr
    obtain ⟨e', w'', fr', hR, hs, hfn, hl⟩ := lvM_steps a'.defers (.panicking chain) w' { b.atR a' todo with mode := .panicking chain } cs' rfl rfl rfl hf rfl hq
    exact ⟨e', w'', fr', hR, Comes.of_steps hs0 hs, hfn, hl⟩
  | exit id => exact hq.elim
  | goto l => exact hq.elim
  | outgrown => exact hq.elim
theorem callsD_of_GW {f : FuncId} {fn : Func} {c : Code} {args : Array Value} {u : FrameMode} {w : World} {R : Ending → FrameMode → World → Prop}
    (hf : P.funcs[f]? = some fn) (hb : fn.body = some c)
    (h : ∀ (c₀ : Frame) (cs : List Frame), c₀.mode = u → GW P .deferred c (bodyPostS P fn c₀ cs R) { tmps := args ++ Array.replicate (fn.ntmps - args.size) undef, defers := [] } (c₀ :: cs) w) :
    CallsD P f args u w R := by
  intro c₀ cs hu
  let b : Frame := { (default : Frame) with fn := f, kind := .deferred, roundOf := none }
  have henter : Frame.enter P f args .deferred =
      b.atR { tmps := args ++ Array.replicate (fn.ntmps - args.size) undef, defers := [] } [.code c] := by
    simp [Frame.enter, Frame.atR, hf, hb, b]
  obtain ⟨e, a', cs', w', hq, harr⟩ := h c₀ cs hu b [] ⟨rfl, rfl⟩
  rw [← henter] at harr
  cases e with
  | normal =>
    obtain ⟨hd, u', rfl, v, hr, hR⟩ := hq
    exact ⟨.returned v, u', w', _, hR, Steps.trans harr (.one (stepR_end rfl)), rfl, rfl, hd, fn, hf, hr⟩
  | ret =>
    obtain ⟨hd, u', rfl, v, hr, hR⟩ := hq
    obtain ⟨k1, hs⟩ := harr
    exact ⟨.returned v, u', w', _, hR, Steps.trans hs (.one (stepR_ret rfl)), rfl, rfl, hd, fn, hf, hr⟩
  | panic chain =>
    obtain ⟨hd, u', rfl, hR⟩ := hq
    obtain ⟨todo, hs⟩ := harr
    exact ⟨.panicked chain, u', w', _, hR, hs, rfl, rfl, hd, fn, hf⟩
  | exit id => exact hq.elim
  | goto l => exact hq.elim
  | outgrown => exact harr.elim
-- rounds
theorem setPs_ok {ρ : Rho} {N : Nat} : ∀ (ps : List Nat) (args : V) (η η1 : Env) (xs : List Value) (tm : Array Value), setPs ps args η = .ok η1 → DV ρ args (LV xs) → psOk N ps = true → N ≤ tm.size → ER ρ η ⟨tm, []⟩ →
    xs.length = ps.length ∧ ER ρ η1 ⟨(ps.zip xs).foldl (fun tmps (t, a) => tmps.setIfInBounds t a) tm, []⟩ ∧ N ≤ ((ps.zip xs).foldl (fun tmps (t, a) => tmps.setIfInBounds t a) tm).size
  | [], args, η, η1, xs, tm, e, hd, _, hn, he => by
    obtain ⟨h1, h2⟩ := bifok (show (bif isNilV args then O.ok η else .no 176) = .ok η1 from e)
    have h3 : args = .nil := by cases args <;> first | rfl | cases h1
    subst h3
    rw [hd.nil_inv, ← okinj h2]
    exact ⟨rfl, he, hn⟩
  | t :: r, args, η, η1, xs, tm, e, hd, hp, hn, he => by
    have e' : setPsS t (setPs r) args η = .ok η1 := e
    unfold setPsS at e'
    split at e'
    · rename_i v rest
      obtain ⟨x, ys, rfl, h1, h2⟩ := hd.cons_inv
      obtain ⟨p1, p2⟩ := bifand (show (bif Nat.blt t N then psOk N r else false) = true from hp)
      have ht : t < N := ble_le (show Nat.ble (t + 1) N = true from p1)
      have he' := he.put (a := ⟨tm, []⟩) hn (dst := some t) (fun d hd => by injection hd with hd; subst hd; exact ht) h1
      have hn' : N ≤ (tm.setIfInBounds t x).size := by simpa using hn
      obtain ⟨k1, k2, k3⟩ := setPs_ok r rest _ η1 ys (tm.setIfInBounds t x) e' h2 p2 hn' he'
      exact ⟨by simp [k1], k2, k3⟩
    · cases e'
theorem rdSet_ok {ρ : Rho} {h : H} {w : World} {b : K} {jump : Option Code} {e : E} (he : rdSet b h jump = .ok e) {l : Loc} (hr : HR P ρ h w) (hl : ρ b = some l) : ∃ v w', (Instr.endRound l.blk jump).run P w = .ok v w' ∧ ENor P ρ h w e (.returned v) w' := by
  unfold rdSet at he
  split at he
  · rename_i η ps as bd st pd hget
    obtain ⟨fn, tm, d, N, m1, m2, m3, m4, m5, m6, m7⟩ := hr.loop hget hl
    have hend := run_endRound (P := P) jump m1
    obtain ⟨n1, n2⟩ := m7 (bif jump.isNone then 0 else 2) jump
    rw [← okinj he]
    refine ⟨_, _, hend, ρ, ?_, ?_, .bool jump.isNone, rfl, .bool _⟩
    · cases jump <;> exact n1
    · cases jump <;> exact n2
  · cases he
theorem roundS_ok (ng : NG P) (ex : ExtOk P) {c : Call} (I1 : CallB P c) (hd : DrawOk P c) {b : K} {args : V} {h : H} {e : E} (he : roundS P c b args h = .ok e) {ρ : Rho} {l : Loc} {xs : List Value} {w : World} (hg : Gl ρ) (hr : HR P ρ h w) (hl : ρ b = some l) (ha : DV ρ args (LV xs)) :
    Rounds P l.blk xs.toArray w (ENor P ρ h w e) := by
  unfold roundS at he
  split at he
  · rename_i η ps as bd st pd hget
    obtain ⟨hst, he1⟩ := bifok he
    have hst := beq_eq hst; subst hst
    obtain ⟨η1, e1, he2⟩ := bnd_ok he1
    obtain ⟨x1, e2, e3⟩ := bnd_ok he2
    obtain ⟨fn, tm, d, N, m1, m2, m3, m4, m5, m6, m7⟩ := hr.loop hget hl
    obtain ⟨q1, q2, q3⟩ := setPs_ok ps.toList args η η1 xs tm e1 ha m4 m3 m2
    have hy := run_yield (P := P) (args := xs.toArray) m1 (by simpa using q1)
    have hz : (ps.zip xs.toArray).foldl (fun tmps (t, a) => tmps.setIfInBounds t a) tm = (ps.toList.zip xs).foldl (fun tmps (t, a) => tmps.setIfInBounds t a) tm := by
      rw [← Array.foldl_toList]
      congr 1
      simp
    generalize htm : (ps.toList.zip xs).foldl (fun tmps (t, a) => tmps.setIfInBounds t a) tm = tm1 at q2 q3 hz
    have hy' : (Instr.yield l.blk xs.toArray).run P w = .ok (.round l.blk fn tm1 as bd) w := by rw [hy]; show Result.ok (Next.round l.blk fn ((ps.zip xs.toArray).foldl (fun tmps (t, a) => tmps.setIfInBounds t a) tm) as bd) w = _; rw [hz]
    refine ⟨fn, tm1, as, bd, hy', fun cf cs => ?_⟩
    let b0 : Frame := { (default : Frame) with fn := fn, kind := .normal, roundOf := some l.blk }
    have hb0 : Frame.round l.blk fn tm1 as bd .normal = b0.atR { tmps := tm1, defers := [] } [.code as, .beginRound, .code bd] := by
      simp [Frame.round, Frame.atR, b0]
    have g1 := (ev_ok ng ex I1 hd (N := N) (kd := .round l.blk) (CS := fun _ => cf :: cs) (pn := none) 10000000).1 as η1 .nil h false x1 m5 e2 ρ ⟨tm1, []⟩ w hg ⟨q2, hr, trivial, q3⟩ (.inr ⟨_, rfl⟩)
    obtain ⟨ee, a1, cs1, w1, ⟨σ, k1, k2, k3, k4⟩, harr⟩ := g1 b0 [.beginRound, .code bd] ⟨rfl, rfl⟩
    obtain ⟨r1, z1⟩ := x1
    unfold rdBody at e3
    simp only at e3
    split at e3
    · rename_i η2 ds h2
      obtain rfl : ee = .normal := k4
      obtain ⟨hnil, e4⟩ := bifok e3
      have hds : ds = .nil := by cases ds <;> first | rfl | cases hnil
      subst hds
      split at e4
      · rename_i ε ps2 as2 bd2 st2 pd2 hget2
        obtain ⟨hst2, e5⟩ := bifok e4
        have hst2 := beq_eq hst2; subst hst2
        obtain ⟨x2, e6, e7⟩ := bnd_ok e5
        have hl2 := k2.le _ _ hl
        obtain ⟨fn2, tm2, d2, N2, n1, n2, n3, n4, n5, n6, n7⟩ := k1.hr.loop hget2 hl2
        obtain ⟨o1, o2⟩ := n7 1 pd2
        have hbr := run_beginRound (P := P) n1 rfl
        have hs1 := stepR_beginRound (P := P) (b := b0) (a := a1) (k := [.code bd]) (cs := cs1) (w := w1) rfl hbr
        have g2 := (ev_ok ng ex I1 hd (N := N) (kd := .round l.blk) (CS := fun _ => cf :: cs) (pn := none) 10000000).1 bd η2 .nil _ false x2 m6 e6 σ a1 _ (hg.mono k2.le) ⟨k1.er, o1, k1.df, k1.sz⟩ (.inr ⟨_, rfl⟩)
        obtain ⟨ee2, a2, cs2, w2, ⟨τ, p1, p2, p3, p4⟩, harr2⟩ := g2 b0 [] ⟨rfl, rfl⟩
        have hl3 := p2.le _ _ hl2
        have hSt := (k2.trans o2).trans p2
        have hbeg : Steps P (lone (Frame.round l.blk fn tm1 as bd .normal) (cf :: cs) w) (lone (b0.atR a1 [.code bd]) (cf :: cs) (w1.putObj l.blk (.loop { state := stOf 1, pending := pd2, fn := fn2, tmps := tm2, params := ps2, assign := as2, body := bd2, defers := d2 }))) := by
          rw [hb0]
          subst k3
          exact Steps.trans harr (.one hs1)
        subst p3
        obtain ⟨r2, z2⟩ := x2
        unfold rdEnd at e7
        cases r2 with
        | nor η3 ds3 h3 =>
          obtain rfl : ee2 = .normal := p4
          obtain ⟨v, w4, y1, y2⟩ := rdSet_ok (show rdSet b h3 none = .ok e from e7) p1.hr hl3
          exact ⟨v, w4, y2.from hSt, hbeg.trans (Steps.trans harr2 (.one (stepR_round_end rfl rfl y1)))⟩
        | ret η3 ds3 h3 =>
          obtain rfl : ee2 = .ret := p4
          obtain ⟨v, w4, y1, y2⟩ := rdSet_ok (show rdSet b h3 (some .ret) = .ok e from e7) p1.hr hl3
          obtain ⟨kk, hs⟩ := harr2
          exact ⟨v, w4, y2.from hSt, hbeg.trans (hs.trans (.one (stepR_round_ret rfl rfl y1)))⟩
        | ext id η3 ds3 h3 =>
          obtain rfl : ee2 = .exit id := p4
          obtain ⟨v, w4, y1, y2⟩ := rdSet_ok (show rdSet b h3 (some (.exit id)) = .ok e from e7) p1.hr hl3
          obtain ⟨kk, hk, hs⟩ := harr2
          exact ⟨v, w4, y2.from hSt, hbeg.trans (hs.trans (.one (stepR_round_exit rfl rfl hk y1)))⟩
        | pan v η3 ds3 h3 => cases (show O.no 173 = .ok e from e7)
      · cases e4
    · cases e3
  · cases he
theorem bodyN {call : Call} {fn : Func} {x : R × Bool} {e : E} (h : afterBody P call fn none x = .ok e) : (∀ id η ds hh, x.1 ≠ .ext id η ds hh) ∧ leave P call fn x.1.env x.2 x.1.ds (match x.1 with | .pan v _ _ _ => some v | _ => none) x.1.heap = .ok e := by
  obtain ⟨r, q⟩ := x
  cases r with
  | nor η ds hh => exact ⟨fun _ _ _ _ k => (by cases k), h⟩
  | ret η ds hh => exact ⟨fun _ _ _ _ k => (by cases k), h⟩
  | pan v η ds hh => exact ⟨fun _ _ _ _ k => (by cases k), h⟩
  | ext id η ds hh => cases (show O.no 135 = .ok e from h)
theorem bodyD {call : Call} {fn : Func} {pn : Option V} {x : R × Bool} {e : E} (h : afterBody P call fn (some pn) x = .ok e) : (∀ id η ds hh, x.1 ≠ .ext id η ds hh) ∧ x.1.ds = .nil ∧ leave0 P fn x.1.env (recQ pn x.2) (match x.1 with | .pan v _ _ _ => some v | _ => none) x.1.heap = .ok e := by
  obtain ⟨r, q⟩ := x
  have nn : ∀ {ds : V} {x : O E} {c : Nat}, (bif isNilV ds then x else .no c) = .ok e → ds = .nil ∧ x = .ok e := by
    intro ds x c k
    obtain ⟨k1, k2⟩ := bifok k
    refine ⟨?_, k2⟩
    cases ds <;> first | rfl | cases k1
  cases r with
  | nor η ds hh => obtain ⟨a, b⟩ := nn h; exact ⟨fun _ _ _ _ k => (by cases k), a, b⟩
  | ret η ds hh => obtain ⟨a, b⟩ := nn h; exact ⟨fun _ _ _ _ k => (by cases k), a, b⟩
  | pan v η ds hh => obtain ⟨a, b⟩ := nn h; exact ⟨fun _ _ _ _ k => (by cases k), a, b⟩
  | ext id η ds hh => cases (show O.no 135 = .ok e from h)
/-- One level of calls. -/
theorem callT_ok (ng : NG P) (ex : ExtOk P) (wf : WfP P) {c : Call} (I1 : CallB P c) (I2 : CallD P c) (hd : DrawOk P c) : CallB P (callT P c) ∧ CallD P (callT P c) := by
    have open1 : ∀ {pn f args h e}, callS P c pn f args h = .ok e → ∃ fn b x, P.funcs[f]? = some fn ∧ fn.body = some b ∧ ev P c pn 10000000 b (initEnv args 0 .e) .nil h false = .ok x ∧ afterBody P c fn pn x = .ok e := by
      intro pn f args h e he
      have he' := he
      unfold callS at he'
      cases hf : P.funcs[f]? with
      | none => rw [hf] at he'; cases he'
      | some fn =>
        rw [hf] at he'
        cases hb : fn.body with
        | none => simp only [hb] at he'; cases he'
        | some b =>
          simp only [hb] at he'
          obtain ⟨x, e1, e2⟩ := bnd_ok he'
          exact ⟨fn, b, x, rfl, hb, e1, e2⟩
    have start : ∀ {fn : Func} {b : Code} {args : V} {h : H} {ρ : Rho} {xs : List Value} {w : World}, HR P ρ h w → DV ρ args (LV xs) → SR P fn.ntmps ρ (initEnv args 0 .e) .nil h { tmps := xs.toArray ++ Array.replicate (fn.ntmps - xs.toArray.size) undef, defers := [] } w := by
      intro fn b args h ρ xs w hr ha
      exact ⟨ER.init ha _, hr, trivial, by simp; omega⟩
    refine ⟨⟨fun f args h e he ρ xs w hg hr ha => ?_, fun b args h e he ρ l xs w hg hr hl ha => roundS_ok ng ex I1 hd (show roundS P c b args h = .ok e from he) hg hr hl ha⟩, fun pn f args h e he => ?_⟩
    · obtain ⟨fn, b, x, hf, hb, e1, e2⟩ := open1 (show callS P c none f args h = .ok e from he)
      obtain ⟨hx, e3⟩ := bodyN e2
      refine calls_of_GW hf hb fun cs => ?_
      have g := (ev_ok ng ex I1 hd (N := fn.ntmps) (kd := .normal) (CS := fun _ => cs) (pn := none) 10000000).1 b _ _ h false x (wf f fn b hf hb) e1 ρ _ w hg (start (b := b) hr ha) (.inl rfl)
      refine g.mono fun ee a' cs' w' hq => ?_
      obtain ⟨σ, k1, k2, k3, k4⟩ := hq
      refine ⟨k3, ?_⟩
      obtain ⟨r, q⟩ := x
      obtain ⟨tmps, defers⟩ := a'
      have lv := fun u hm => leave_ok ng I2 (R := ENor P ρ h w e) (N := fn.ntmps) (fn := fn) (tmps := tmps) defers _ _ _ e e3 σ w' u (hg.mono k2.le) k1 hm (fun en w2 k => k.from k2)
      cases r with
      | nor η ds hh => obtain rfl : ee = .normal := k4; exact lv .returning rfl
      | ret η ds hh => obtain rfl : ee = .ret := k4; exact lv .returning rfl
      | pan v η ds hh => obtain ⟨ch, rfl, hch⟩ := k4; exact lv (.panicking ch) ⟨ch, rfl, hch⟩
      | ext id η ds hh => exact (hx _ _ _ _ rfl).elim
    · obtain ⟨fn, b, x, hf, hb, e1, e2⟩ := open1 (show callS P c (some pn) f args h = .ok e from he)
      obtain ⟨hx, hn, e3⟩ := bodyD e2
      have hrec : e.rec' = recQ pn x.2 := by
        unfold leave0 at e3
        split at e3
        · obtain ⟨l, _, k⟩ := bnd_ok e3; rw [← okinj k]; rfl
        · rw [← okinj e3]; rfl
      refine ⟨⟨fn, b, hf, hb⟩, fun k => ?_, fun ρ xs w u hg hr ha hm => ?_⟩
      · rw [hrec] at k
        cases pn with
        | none => cases k
        | some v => exact ⟨v, rfl⟩
      refine callsD_of_GW hf hb fun c0 cs hmode b' k hb' => ?_
      have hq : ∀ q, (if q then recov u else u) = if recQ pn q then recov u else u := by
        intro q
        cases pn with
        | none => obtain rfl : u = .returning := hm; cases q <;> rfl
        | some v => rfl
      have pk : PnOk .deferred (fun q => { c0 with mode := if q = true then recov u else u } :: cs) ρ (some pn) := by
        cases pn with
        | none =>
          obtain rfl : u = .returning := hm
          exact ⟨rfl, fun q => by cases q <;> rfl⟩
        | some v =>
          obtain ⟨ch, rfl, y, old, rfl, hy, ho⟩ := hm
          exact ⟨rfl, rfl, y, hy, rfl⟩
      have hc0 : ({ c0 with mode := if false = true then recov u else u } : Frame) :: cs = c0 :: cs := by
        subst hmode; rfl
      have g := (ev_ok ng ex I1 hd (N := fn.ntmps) (kd := .deferred) (CS := fun q => { c0 with mode := if q = true then recov u else u } :: cs) (pn := some pn) 10000000).1 b _ _ h false x (wf f fn b hf hb) e1 ρ _ w hg (start (b := b) hr ha) pk
      rw [hc0] at g
      have g2 := g.mono (Q' := bodyPostS P fn c0 cs (EDef P ρ h w u e)) fun ee a' cs' w' hq' => ?_
      · exact g2 b' k hb'
      obtain ⟨σ, k1, k2, k3, k4⟩ := hq'
      have hdn : a'.defers = [] := by
        have hdf := k1.df
        rw [hn] at hdf
        cases hx : a'.defers with
        | nil => rfl
        | cons d r =>
          rw [hx] at hdf
          rcases hdf.cons_inv with ⟨f', args', t', hh, _⟩ | ⟨_, _, _, hh, _⟩ <;> cases hh
      have hu : (if x.2 = true then recov u else u) = if e.rec' then recov u else u := by rw [hrec]; exact hq x.2
      obtain ⟨r, q⟩ := x
      have fin : ∀ {η ds hh}, r.env = η → r.ds = ds → r.heap = hh → leave0 P fn η (recQ pn q) none hh = .ok e → ∃ v, (results fn a'.tmps).run P w' = .ok v w' ∧ EDef P ρ h w u e (.returned v) (if q = true then recov u else u) w' := by
        intro η ds hh q1 q2 q3 q4
        subst q1; subst q2; subst q3
        obtain ⟨l, e4, e5⟩ := bnd_ok (show (resV P r.heap r.env fn.results.toList).bnd _ = .ok e from q4)
        obtain ⟨y, z1, z2⟩ := res_ok k1 e4
        have e6 := okinj e5
        refine ⟨y, z1, ?_, hu⟩
        subst e6
        exact ⟨σ, k1.hr, k2, y, rfl, z2⟩
      cases r with
      | nor η ds hh =>
        obtain rfl : ee = .normal := k4
        obtain ⟨v, f1, f2⟩ := fin rfl rfl rfl e3
        exact ⟨hdn, _, k3, v, f1, f2⟩
      | ret η ds hh =>
        obtain rfl : ee = .ret := k4
        obtain ⟨v, f1, f2⟩ := fin rfl rfl rfl e3
        exact ⟨hdn, _, k3, v, f1, f2⟩
      | pan v η ds hh =>
        obtain ⟨ch, rfl, hch⟩ := k4
        refine ⟨hdn, _, k3, ?_, hu⟩
        have e6 := okinj (show O.ok (E.pan v hh (recQ pn q)) = .ok e from e3)
        subst e6
        exact ⟨σ, k1.hr, k2, ch, rfl, hch⟩
      | ext id η ds hh => exact (hx _ _ _ _ rfl).elim
/-- Calls. -/
theorem call_ok (ng : NG P) (ex : ExtOk P) (wf : WfP P) (hdr : ∀ call, CallB P call → DrawOk P call) : ∀ n, CallB P (call P n) ∧ CallD P (call P n)
  | 0 => ⟨⟨fun _ _ _ _ e => (by cases (show O.no 136 = .ok _ from e)), fun _ _ _ _ e => (by cases (show O.no 136 = .ok _ from e))⟩, fun _ _ _ _ _ e => (by cases (show O.no 136 = .ok _ from e))⟩
  | n+1 => by
    obtain ⟨I1, I2⟩ := call_ok ng ex wf hdr n
    exact callT_ok ng ex wf I1 I2 (hdr _ I1)
end Ex
namespace Ex
open Go Go.MapKept
variable [Base] {P : Program}
theorem bv {α : Type} {x : O α} {f : α → O Nx} {v : V} {h h' : H} (e : x.bnd f = .ok (.val v h')) (k : ∀ a, f a = .ok (.val v h') → h' = h) : h' = h := by
  obtain ⟨a, _, e2⟩ := bnd_ok e; exact k a e2
theorem vh {v u : V} {h h' : H} (e : O.ok (Nx.val u h) = .ok (.val v h')) : h' = h := by
  injection e with e; injection e with _ e; exact e.symm
theorem ovh {x : O V} {v : V} {h h' : H} (e : oval h x = .ok (.val v h')) : h' = h := by
  obtain ⟨a, _, e2⟩ := oval_ok e; injection e2 with _ e2
theorem light_heap {o : Oper} (ho : lightB o.op = true) {η : Env} {h h' : H} {v : V} (e : evOp P o η h = .ok (.val v h')) : h' = h := by
  unfold evOp at e
  unfold lightB at ho
  generalize o.op = op at e ho
  cases op <;> first | (exact absurd (show false = true from ho) (by decide)) | skip
  case move => exact ovh e
  case assign => exact ovh e
  case pick =>
    refine bv e fun a e => ?_
    split at e
    · exact ovh e
    · cases e
  case load =>
    refine bv e fun a e => ?_
    split at e
    · exact ovh e
    · cases e
  case nilCheck =>
    refine bv e fun a e => ?_
    split at e <;> first | exact vh e | cases e
  case binOp => exact bv e fun a e => bv e fun b e => ovh e
  case unOp =>
    refine bv e fun a e => ?_
    split at e <;> first | exact vh e | cases e
  case makeInterface =>
    refine bv e fun a e => ?_
    split at e <;> first | exact vh e | cases e
  case makeFunc =>
    refine bv e fun a e => bv e fun b e => ?_
    split at e <;> first | exact vh e | cases e
  case slice =>
    refine bv e fun a e => bv e fun b e => bv e fun c e => ?_
    split at e <;> first | exact ovh e | cases e
  case fieldAddr =>
    refine bv e fun a e => ?_
    split at e
    · split at e
      · obtain h1 | h1 := Bool.eq_false_or_eq_true (Nat.beq (P.cellsOf _) 0)
        · rw [h1] at e; cases e
        · rw [h1] at e; exact vh e
      · cases e
    · cases e
  case field =>
    refine bv e fun a e => ?_
    split at e
    · split at e
      · exact ovh e
      · cases e
    · cases e
  case indexAddr =>
    have key : ∀ {e' b o i n}, idxAt P h e' b o i n = .ok (.val v h') → h' = h := by
      intro e' b o i n k
      unfold idxAt at k
      obtain ⟨_, k⟩ := bifok k
      obtain ⟨_, k⟩ := bifok k
      exact vh k
    refine bv e fun a e => bv e fun b e => ?_
    split at e <;> first | exact key e | cases e
  case index =>
    refine bv e fun a e => bv e fun b e => ?_
    split at e
    · obtain ⟨_, e⟩ := bifok e
      obtain ⟨_, e⟩ := bifok e
      exact ovh e
    · split at e
      · exact vh e
      · cases e
    · cases e
  case extract =>
    refine bv e fun a e => ?_
    split at e
    · exact ovh e
    · cases e
  case build =>
    refine bv e fun a e => bv e fun b e => ?_
    obtain ⟨_, e⟩ := bifok e
    split at e
    · obtain ⟨_, e⟩ := bifok e
      exact bv e fun a e => vh e
    · obtain ⟨_, e⟩ := bifok e
      exact bv e fun a e => vh e
    · cases e
  case call c =>
    have e' : opCall P η h c = .ok (.val v h') := e
    unfold opCall at e'
    refine bv e' fun a e => ?_
    have ho' : (match c.callee with | .builtin .len => true | .builtin .cap => true | .builtin .max => true | .builtin .min => true | _ => false) = true := ho
    split at ho'
    · rename_i hc
      rw [hc] at e
      have e2 : bi_len P h c.argTypes a = .ok (.val v h') := e
      unfold bi_len at e2
      split at e2
      · split at e2
        all_goals first | exact vh e2 | (split at e2 <;> first | exact vh e2 | cases e2) | cases e2
      · cases e2
    · rename_i hc
      rw [hc] at e
      have e2 : bi_cap P h c.argTypes a = .ok (.val v h') := e
      unfold bi_cap at e2
      split at e2
      · split at e2
        all_goals first | exact vh e2 | cases e2
      · cases e2
    · rename_i hc
      rw [hc] at e
      have e2 : bi_max P h c.argTypes a = .ok (.val v h') := e
      unfold bi_max at e2
      split at e2
      · exact vh e2
      · cases e2
    · rename_i hc
      rw [hc] at e
      have e2 : bi_min P h c.argTypes a = .ok (.val v h') := e
      unfold bi_min at e2
      split at e2
      · exact vh e2
      · cases e2
    · cases ho'
/-- What an operation reads of the registers. -/
theorem opds_congr {η η' : Env} : ∀ {l : List Operand}, (∀ x ∈ l, opd η x = opd η' x) → opds η l = opds η' l
  | [], _ => rfl
  | x :: r, h => by
    show opdsS η x (opds η r) = opdsS η' x (opds η' r)
    rw [opds_congr (l := r) fun y hy => h y (List.mem_cons_of_mem _ hy)]
    unfold opdsS
    rw [h x List.mem_cons_self]
theorem opdO_congr {η η' : Env} {x : Option Operand} (h : ∀ y, x = some y → opd η y = opd η' y) : opdO η x = opdO η' x := by
  cases x with
  | none => rfl
  | some y => unfold opdO; simp only [h y rfl]
theorem evOp_congr {o : Oper} {η η' : Env} {h : H} (k : ∀ x ∈ o.op.operands.toList, opd η x = opd η' x) : evOp P o η h = evOp P o η' h := by
  unfold evOp
  generalize o.op = op at k ⊢
  cases op
  case makeFunc fn first cap =>
    have k1 := opds_congr (l := first.toList) fun x hx => k x (by simp [Op.operands]; exact .inl (by simpa using hx))
    have k2 := opds_congr (l := cap.toList) fun x hx => k x (by simp [Op.operands]; exact .inr (by simpa using hx))
    show opMakefunc P η h fn first cap = opMakefunc P η' h fn first cap
    unfold opMakefunc; rw [k1, k2]
  case build t ps =>
    have k1 := opds_congr (l := ps.toList.map (·.2)) fun x hx => k x (by simpa [Op.operands] using hx)
    show opBuild P η h t ps = opBuild P η' h t ps
    unfold opBuild; rw [k1]
  case buildSlice t n ps =>
    have k1 := opds_congr (l := ps.toList.map (·.2)) fun x hx => k x (by simpa [Op.operands] using hx)
    show opBuildslice P η h t n ps = opBuildslice P η' h t n ps
    unfold opBuildslice; rw [k1]
  case call c =>
    have k1 := opds_congr (l := c.args.toList) fun x hx => k x (by simp [Op.operands, Call.operands]; exact .inr (by simpa using hx))
    show opCall P η h c = opCall P η' h c
    unfold opCall; rw [k1]
    congr 1; funext a
    cases hc : c.callee with
    | value f => simp only [k f (by simp [Op.operands, Call.operands, hc])]
    | invoke r n => simp only [k r (by simp [Op.operands, Call.operands, hc])]
    | builtin b => rfl
  case defer c =>
    have k1 := opds_congr (l := c.args.toList) fun x hx => k x (by simp [Op.operands, Call.operands]; exact .inr (by simpa using hx))
    show opDefer P η h c = opDefer P η' h c
    unfold opDefer; rw [k1]
    congr 1; funext a
    cases hc : c.callee with
    | value f => simp only [k f (by simp [Op.operands, Call.operands, hc])]
    | invoke r n => rfl
    | builtin b => rfl
  case slice t x lo hi mx =>
    have k0 := k x (by simp [Op.operands])
    have k1 := opdO_congr (x := lo) fun y hy => k y (by subst hy; simp [Op.operands])
    have k2 := opdO_congr (x := hi) fun y hy => k y (by subst hy; simp [Op.operands])
    show opSlice P η h t x lo hi mx = opSlice P η' h t x lo hi mx
    unfold opSlice; rw [k0, k1, k2]
  case makeMap t r =>
    cases r with
    | none => rfl
    | some x => show opMakemap P η h t x = opMakemap P η' h t x; unfold opMakemap; rw [k x (by simp [Op.operands])]
  all_goals first
    | rfl
    | (simp only [Op.operands, List.mem_cons, List.mem_nil_iff, or_false, forall_eq_or_imp, forall_eq] at k
       simp only [opMove, opPick, opBox, opLoad, opStore, opNilcheck, opBinop, opUnop, opConvert, opMakeinterface, opMakeslice, opFieldaddr, opField, opIndexaddr, opIndex, opLookup, opMapupdate, opRange, opNext, opTypeassert, opExtract, opPanic, k])
end Ex
namespace Ex
open Go Go.MapKept
variable [Base] {P : Program}
/-- A block that lies there already gets its name. -/
theorem HR.adopt {ρ : Rho} {h : H} {w : World} (r : HR P ρ h w) (o : Ob) (l : Loc) (hb : l.blk < w.heap.size) (hbb : Base.w.heap.size ≤ l.blk) (hn : ∀ b q m, h.get b = some q → ρ b = some m → m.blk ≠ l.blk)
    (ho : OR P (ρ.put h.next l) l w o) : HR P (ρ.put h.next l) (h.new o) w := by
  have hnx : ρ h.next = none := r.fresh _ (Nat.le_refl _)
  have hle := Rho.put_le (l := l) hnx
  refine ⟨fun b q e => ?_, fun b c o1 o2 l1 l2 e1 e2 a1 a2 eq => ?_, fun b hb' => ?_, fun b o1 l1 e a => ?_, ⟨r.old.size, r.old.kept, fun k hw => by
    obtain ⟨b, q, m, e, e2, e3, e4⟩ := hw
    rw [H.get_new] at e
    unfold Rho.put at e3
    by_cases q' : b = h.next
    · rw [if_pos q'] at e3; injection e3 with e3; subst e3; omega
    · rw [if_neg q'] at e e3; exact r.old.wr k ⟨b, q, m, e, e2, e3, e4⟩⟩⟩
  · rw [H.get_new] at e
    by_cases q' : b = h.next
    · subst q'
      rw [if_pos rfl] at e
      injection e with e; subst e
      exact ⟨l, Rho.put_same _ _ _, ho⟩
    · rw [if_neg q'] at e
      obtain ⟨m, a, x⟩ := r.ob b q e
      exact ⟨m, hle _ _ a, x.mono hle⟩
  · rw [H.get_new] at e1 e2
    unfold Rho.put at a1 a2
    by_cases q1 : b = h.next <;> by_cases q2 : c = h.next
    · exact .inl (by rw [q1, q2])
    · rw [if_pos q1] at a1; rw [if_neg q2] at a2 e2
      injection a1 with a1; subst a1
      exact (hn c o2 l2 e2 a2 eq.symm).elim
    · rw [if_neg q1] at a1 e1; rw [if_pos q2] at a2
      injection a2 with a2; subst a2
      exact (hn b o1 l1 e1 a1 eq).elim
    · rw [if_neg q1] at a1 e1; rw [if_neg q2] at a2 e2
      exact r.inj b c o1 o2 l1 l2 e1 e2 a1 a2 eq
  · have : (h.new o).next.num = h.next.num + 1 := K.succ_num _
    unfold Rho.put
    rw [if_neg (fun e => by subst e; omega)]
    exact r.fresh b (by omega)
  · rw [H.get_new] at e
    unfold Rho.put at a
    by_cases q : b = h.next
    · rw [if_pos q] at a; injection a with a; subst a; exact hb
    · rw [if_neg q] at a e
      exact r.lt b o1 l1 e a
theorem St.adopt {ρ0 ρ : Rho} {h0 h : H} {w0 w : World} (s : St ρ0 h0 w0 ρ h w) (r : HR P ρ h w) (o : Ob) (l : Loc) (hb : w0.heap.size ≤ l.blk) : St ρ0 h0 w0 (ρ.put h.next l) (h.new o) w := by
  have hnx : ρ h.next = none := r.fresh _ (Nat.le_refl _)
  refine ⟨Rho.le_trans s.le (Rho.put_le hnx), s.os, s.tape, s.output, s.size, s.kept, fun k hw => ?_, ?_, fun d x m e0 e => ?_⟩
  · obtain ⟨b, q, m, e, e2, e3, e4⟩ := hw
    rw [H.get_new] at e
    unfold Rho.put at e3
    by_cases q' : b = h.next
    · rw [if_pos q'] at e3; injection e3 with e3; subst e3; exact .inr (by omega)
    · rw [if_neg q'] at e e3; exact s.wr k ⟨b, q, m, e, e2, e3, e4⟩
  · have : (h.new o).next.num = h.next.num + 1 := K.succ_num _
    have := s.nx
    omega
  · rw [H.get_new] at e0
    unfold Rho.put at e
    by_cases q' : d = h.next
    · rw [if_pos q'] at e; injection e with e; subst e; exact .inr hb
    · rw [if_neg q'] at e e0; exact s.loc d x m e0 e
theorem or_row {P : Program} {ρ σ : Rho} (hle : Rho.le ρ σ) {w : World} {blk : Nat} {l : V} {xs : List Value} {el : Nat} (hw : w.heap[blk]? = some (.cells xs.toArray el)) (hl : DV ρ l (LV xs)) (h1 : ∀ v ∈ l.toL, v.one = true) : OR P σ ⟨blk, 0, 0⟩ w (.cells false false (putCells .e l 0) l.len el) := by
  refine ⟨xs.toArray, (0, 0), hw, ?_, ?_, ⟨fun _ => rfl, fun _ => ⟨0, (Nat.zero_mul _).symm⟩⟩, fun i hi => ?_⟩
  · simp; rw [hl.len]; omega
  · simp
  · have hlen := hl.len
    rw [V.len_eq] at hlen hi
    have hg : l.toL[i]? = some (l.toL[i]) := List.getElem?_eq_getElem hi
    obtain ⟨x, a, b⟩ := hl.lst.2.get i _ hg
    refine ⟨l.toL[i], x, ?_, ?_, b.mono hle, h1 _ (List.getElem_mem _)⟩
    · rw [putCells_at _ _ _ _ hl.lst.1, if_pos ⟨Nat.zero_le _, by omega⟩]; simpa using hg
    · simpa using a
theorem mm_inv {op : Op} (ho : isAl op = true) : (∃ t, op = .alloc t) ∨ (∃ t len parts, op = .buildSlice t len parts) ∨ (∃ t l c, op = .makeSlice t l c) ∨ ∃ t, op = .makeMap t none := by
  unfold isAl at ho
  split at ho
  · exact .inl ⟨_, rfl⟩
  · exact .inr (.inl ⟨_, _, _, rfl⟩)
  · exact .inr (.inr (.inl ⟨_, _, _, rfl⟩))
  · exact .inr (.inr (.inr ⟨_, rfl⟩))
  · cases ho
/-- What a new place is, whatever the heap. -/
theorem alloc_raw {o : Oper} (ho : isAl o.op = true) {η : Env} {h h' : H} {v : V} (e : evOp P o η h = .ok (.val v h')) : ∃ (ob : Ob) (mk : K → V), v = mk h.next ∧ h' = h.new ob ∧
    ∀ (ρ : Rho) (a : Act) (w : World), ER ρ η a → Gl ρ → ∃ (obj : Obj) (x : Value), (execOp a.eval o).run P w = .ok (.value x) (w.alloc obj) ∧ OR P ρ ⟨w.heap.size, 0, 0⟩ (w.alloc obj) ob ∧
      ∀ (σ : Rho) (b : K), σ b = some ⟨w.heap.size, 0, 0⟩ → DV σ (mk b) x := by
  have row : ∀ {ρ : Rho} {w : World} {l : V} {xs : List Value} {el : Nat}, DV ρ l (LV xs) → (∀ v ∈ l.toL, v.one = true) → OR P ρ ⟨w.heap.size, 0, 0⟩ (w.alloc (.cells xs.toArray el)) (.cells false false (putCells .e l 0) l.len el) :=
    fun {ρ w l xs el} h1 h2 => or_row (Rho.le_refl _) (by show (w.heap.push _)[w.heap.size]? = _; simp) h1 h2
  rcases mm_inv ho with ⟨t, ho⟩ | ⟨t, len, parts, ho⟩ | ⟨t, lx, cx, ho⟩ | ⟨t, ho⟩
  · have e' : opAlloc P η h t = .ok (.val v h') := by unfold evOp at e; rw [ho] at e; exact e
    unfold opAlloc at e'
    obtain ⟨z, e1, e2⟩ := bnd_ok e'
    obtain ⟨p, h2, e3, e4⟩ := ovalh_ok e2
    injection e4 with e4 e5
    subst e4; subst e5
    unfold newV at e3
    obtain ⟨hp, e3⟩ := bifok e3
    have e3 := okinj e3
    injection e3 with e5 e6
    refine ⟨.cells false false (putCells .e z.cells 0) z.cells.len t, fun k => .ptr k 0, e5.symm, e6.symm, fun ρ a w he hg => ?_⟩
    obtain ⟨x, hz, hx⟩ := zero_run (ρ := ρ) e1 w
    obtain ⟨xs, a1, a2, a3⟩ := cells_ok hx hp
    refine ⟨.cells xs.toArray t, .pointer (some ⟨w.heap.size, 0, none⟩), ?_, row a1 a3, fun σ b hb => .ptr (l := ⟨w.heap.size, 0, 0⟩) 0 hb⟩
    have : x.cells = xs.toArray := by rw [← a2]
    simp [execOp, ho, Instr.alloc, hz, newVar, Go.newRow, this]
  · have e' : opBuildslice P η h t len parts = .ok (.val v h') := by unfold evOp at e; rw [ho] at e; exact e
    unfold opBuildslice at e'
    obtain ⟨vs, e1, e2⟩ := bnd_ok e'
    split at e2
    · rename_i el hu
      obtain ⟨z, e3, e4⟩ := bnd_ok e2
      obtain ⟨hp, e4⟩ := bifok e4
      obtain ⟨hb1, e4⟩ := bifok e4
      obtain ⟨hb2, e4⟩ := bifok e4
      obtain ⟨hb3, e4⟩ := bifok e4
      obtain ⟨l, e5, e6⟩ := bnd_ok e4
      have e6 := okinj e6
      injection e6 with e6 e7
      refine ⟨.cells false false (putCells .e l 0) l.len el, fun k => .sl k 0 len len, e6.symm, e7.symm, fun ρ a w he hg => ?_⟩
      have hvs := opds_ok he hg e1
      obtain ⟨zx, hz, hzx⟩ := zero_run (ρ := ρ) e3 w
      obtain ⟨cs, c1, c2, c3⟩ := cells_ok hzx hp
      have hcl : cs.length = P.cellsOf el := by rw [← c1.len]; exact beq_eq hb2
      have hpos := ble_le hb1
      obtain ⟨inf, hi, _⟩ := cells_info (P := P) (t := el) (by omega)
      obtain ⟨xs, r1, r2, r3, r4⟩ := rep_ok c1 c3 len
      have hlen : (parts.toList.map (·.1)).length = ((parts.toList.map (·.2)).map a.eval).length := by simp
      obtain ⟨ys, y1, y2, y3, y4⟩ := fill_ok _ hvs hlen r1 r2 e5
      refine ⟨.cells ys.toArray el, .slice (some ⟨w.heap.size, 0, none⟩) len len, ?_, row y2 y3, fun σ b hb => .sl (l := ⟨w.heap.size, 0, 0⟩) 0 len len hb⟩
      have hcells : zx.cells = cs.toArray := by rw [← c2]
      have hsmall : ¬ len * P.cellsOf el > 2 ^ 24 := by have := ble_le hb3; omega
      have hrow : (Array.range (len * P.cellsOf el)).map (fun i => cs.toArray[i % cs.toArray.size]!) = xs.toArray := by
        rw [← hcl]; exact rep_cells (by omega) r3 r4
      rw [hcl] at r3
      by_cases h0 : len * P.cellsOf el = 0
      · have hx0 : xs = [] := by
          cases xs with
          | nil => rfl
          | cons x r => simp [h0] at r3
        subst hx0
        have hr0 : (Array.range (len * P.cellsOf el)).map (fun x => (#[] : Array Value)[x % (#[] : Array Value).size]!) = ([] : List Value).toArray := by rw [h0]; apply Array.ext'; rw [Array.toList_map, Array.toList_range]; rfl
        simp only [execOp, ho, Instr.buildSlice, Sem.run_bind, Result.andThen_ok, run_u hu, size_info hi]
        rw [if_neg hsmall, if_pos h0]
        simp only [Sem.run_bind, Sem.run_pure, Result.andThen_ok]
        rw [hr0, parts_zip, y1]
        simp [Go.newRow]
      · simp only [execOp, ho, Instr.buildSlice, Sem.run_bind, Result.andThen_ok, run_u hu, size_info hi]
        rw [if_neg hsmall, if_neg h0]
        simp only [Sem.run_bind, Sem.run_pure, hz, Result.andThen_ok, hcells]
        rw [hrow, parts_zip, y1]
        simp [Go.newRow]
    · cases e2
  · have e' : opMakeslice P η h t lx cx = .ok (.val v h') := by unfold evOp at e; rw [ho] at e; exact e
    clear e
    have e := e'
    unfold opMakeslice at e
    obtain ⟨lv, e1, e2⟩ := bnd_ok e
    obtain ⟨cv, e3, e4⟩ := bnd_ok e2
    split at e4
    · rename_i el l c hu hnl hnc
      obtain ⟨hio, e4⟩ := bifok e4
      obtain ⟨hlc, e4⟩ := bifok e4
      obtain ⟨hcs, e4⟩ := bifok e4
      obtain ⟨hgr, e4⟩ := bifok e4
      obtain ⟨z, e5, e6⟩ := bnd_ok e4
      have e6 := okinj e6
      injection e6 with e7 e8
      obtain ⟨i, zv, hi, hiz, hsz, hzs, hpos, hby⟩ := item_ok hio
      refine ⟨.cells false false (putCells .e (rep z.cells c) 0) (rep z.cells c).len el, fun k => .sl k 0 l c, e7.symm, e8.symm, fun ρ a w he hg => ?_⟩
      have hl := opd_ok he hg e1
      have hc := opd_ok he hg e3
      generalize hq : a.eval lx = lxv at hl
      generalize hq2 : a.eval cx = cxv at hc
      obtain ⟨zx, hz, hzx⟩ := zero_run (ρ := ρ) e5 w
      have hp : plainV z = true := by
        unfold itemOk at hio
        rw [e5] at hio
        cases hp : plainV z with
        | true => rfl
        | false => simp only [hp] at hio; cases hio
      obtain ⟨cs, c1, c2, c3⟩ := cells_ok hzx hp
      have hzz : zx = zv := by
        have := zv_run hi hiz w
        rw [this] at hz; injection hz with hz; exact hz.symm
      subst hzz
      have hcl : cs.length = P.cellsOf el := by rw [← hzs, ← c2]; exact Array.length_toList
      obtain ⟨xs, r1, r2, r3, r4⟩ := rep_ok c1 c3 c
      refine ⟨.cells xs.toArray el, .slice (some ⟨w.heap.size, 0, none⟩) l c, ?_, row r1 r2, fun σ b hb => .sl (l := ⟨w.heap.size, 0, 0⟩) 0 l c hb⟩
      have hcells : zx.cells = cs.toArray := by rw [← c2]
      have hrow : (Array.range (c * P.cellsOf el)).map (fun i => cs.toArray[i % cs.toArray.size]!) = xs.toArray := by
        rw [← hcl]; exact rep_cells (by omega) r3 r4
      have hti := ti_run hi w
      obtain ⟨k1, rfl⟩ := natI_ok hl hnl
      obtain ⟨k2, rfl⟩ := natI_ok hc hnc
      have hlc' := ble_le hlc
      have hcs' := ble_le hcs
      have hw1 : IntKind.i64.wrap (l : Int) = (l : Int) := wrap_nat (by omega)
      have hw2 : IntKind.i64.wrap (c : Int) = (c : Int) := wrap_nat (by omega)
      have hbytes : i.bytes * c ≤ 281474976710656 := by
        unfold growOk at hgr
        simp only [Bool.and_eq_true] at hgr
        have h1 := ble_le hgr.1
        rw [hby] at h1
        refine Nat.le_trans ?_ h1
        rw [Nat.mul_comm]
        exact Nat.mul_le_mul_right _ (by omega)
      have hlarge : ¬ (((c : Int) < 0 || (i.bytes : Int) * (c : Int) > 2 ^ 48 || (l : Int) < 0 || (l : Int) > (c : Int)) = true) := by
        have h2 := Int.ofNat_le.2 hbytes
        rw [Int.natCast_mul] at h2
        generalize (i.bytes : Int) * (c : Int) = q at h2 ⊢
        simp only [Bool.or_eq_true, decide_eq_true_eq]
        omega
      have hn0 : (c * P.cellsOf el = 0) = (c = 0) := by
        apply propext
        constructor
        · intro q; rcases Nat.mul_eq_zero.1 q with q | q
          · exact q
          · omega
        · rintro rfl; exact Nat.zero_mul _
      simp only [execOp, ho, hq, hq2, Instr.makeSlice, Sem.run_bind, Result.andThen_ok, run_u hu, asInt, asIntOf, Sem.run_pure, hw1, hw2, hti]
      rw [if_neg hlarge]
      simp only [Sem.run_bind, run_askRoom, Result.andThen_ok, size_info hi, Int.toNat_natCast]
      by_cases h0 : c * P.cellsOf el = 0
      · have hx0 : xs = [] := by
          cases xs with
          | nil => rfl
          | cons x r => simp [hcl, h0] at r3
        subst hx0
        have hr0 : (Array.range (c * P.cellsOf el)).map (fun x => (#[] : Array Value)[x % (#[] : Array Value).size]!) = ([] : List Value).toArray := by rw [h0]; apply Array.ext'; rw [Array.toList_map, Array.toList_range]; rfl
        rw [if_pos h0]
        simp only [Sem.run_bind, Sem.run_pure, Result.andThen_ok]
        rw [hr0]
        simp [Go.newRow]
      · rw [if_neg h0]
        simp only [Sem.run_bind, Sem.run_pure, hz, Result.andThen_ok, hcells]
        rw [hrow]
        simp [Go.newRow]
    · cases e4
  · have e' : opMakemap0 P η h = .ok (.val v h') := by unfold evOp at e; rw [ho] at e; exact e
    unfold opMakemap0 at e'
    have e2 := okinj e'
    injection e2 with e3 e4
    refine ⟨.map [] 0, fun k => .map k, e3.symm, e4.symm, fun ρ a w he hg => ⟨.map #[] 0, .map (some w.heap.size), ?_, ⟨[], by show (w.heap.push _)[w.heap.size]? = _; simp, trivial⟩, fun σ b hb => .map (l := ⟨w.heap.size, 0, 0⟩) hb⟩⟩
    simp [execOp, ho, Instr.makeMap]
end Ex
