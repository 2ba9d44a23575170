import Derived.Test.YtfkfccpjfagamaaGreatDoorYg
set_option linter.all false
namespace Ex
open Go
noncomputable section
-- regions that have been looked at once are not looked at again
def regDX (P : Program) (call : Call) (ops : Array Oper) (η : Env) (ds : V) (h : H) (q : Bool) : O (R × Bool) :=
  (runDF P ops.toList call (ordOf ops) η h).bnd fun p => bif lvlAF P p.h (segF p.es 0) p.es then finF ops η ds q p else .no 153
theorem regDX_eq {P : Program} {call : Call} {ops : Array Oper} (ho : regOkS ops = true) (η : Env) (ds : V) (h : H) (q : Bool) : regDX P call ops η ds h q = regD P call ops η ds h q := by
  rw [regD_f]
  unfold regDF
  rw [ho]
  rfl
def codeRegs (c : Code) : Bool := Code.rec (motive := fun _ => Bool) true (fun _ ops d => bif d then regOkS ops else true) (fun _ _ a b => bif a then b else false) (fun _ _ _ a b => bif a then b else false) (fun _ _ a => a) (fun _ a => a)
  (fun _ _ _ _ _ _ => true) (fun _ => true) (fun _ a => a) (fun _ => true) (fun _ => true) true (fun _ => true) c
def regOp (P : Program) (call : Call) (pn : Option (Option V)) (dst : Option Nat) (ih : RegT) (η : Env) (ds : V) (h : H) (q : Bool) (op : Op) : O (R × Bool) := ((match op with
  | .move x => fun _ _ _ dst ih η ds h q => (opd η x).bnd fun v => ih (putD η dst v) ds h q
  | .assign x => fun _ _ _ dst ih η ds h q => (opd η x).bnd fun v => ih (putD η dst v) ds h q
  | .pick c a b => fun P call pn dst ih η ds h q => (opPick P η h c a b).bnd fun nx => afterOp call pn dst ih η ds q nx
  | .alloc t => fun P call pn dst ih η ds h q => (opAlloc P η h t).bnd fun nx => afterOp call pn dst ih η ds q nx
  | .box t x => fun P call pn dst ih η ds h q => (opBox P η h t x).bnd fun nx => afterOp call pn dst ih η ds q nx
  | .build t parts => fun P call pn dst ih η ds h q => (opBuild P η h t parts).bnd fun nx => afterOp call pn dst ih η ds q nx
  | .buildSlice t len parts => fun P call pn dst ih η ds h q => (opBuildslice P η h t len parts).bnd fun nx => afterOp call pn dst ih η ds q nx
  | .insert t m k x => fun P call pn dst ih η ds h q => (opMapupdate P η h t m k x).bnd fun nx => afterOp call pn dst ih η ds q nx
  | .load t a => fun P _ _ dst ih η ds h q => (opd η a).bnd fun a => V.onPtr (fun _ _ _ _ _ _ _ _ => .no 63) (fun b o P t dst ih η ds h q => (loadV P h t b o).bnd fun v => ih (putD η dst v) ds h q) a P t dst ih η ds h q
  | .store t a x => fun P call pn dst ih η ds h q => (opStore P η h t a x).bnd fun nx => afterOp call pn dst ih η ds q nx
  | .ready _ => fun _ _ _ _ _ _ _ _ _ => .no 116
  | .waits _ => fun _ _ _ _ _ _ _ _ _ => .no 116
  | .nilCheck x => fun P call pn dst ih η ds h q => (opNilcheck P η h x).bnd fun nx => afterOp call pn dst ih η ds q nx
  | .binOp op xt x y _ => fun P _ _ dst ih η ds h q => (opd η x).bnd fun a => (opd η y).bnd fun b => (binV P h op xt x y a b).bnd fun v => ih (putD η dst v) ds h q
  | .unOp op _ x => fun P call pn dst ih η ds h q => (opUnop P η h op x).bnd fun nx => afterOp call pn dst ih η ds q nx
  | .convert s d x => fun P call pn dst ih η ds h q => (opConvert P η h s d x).bnd fun nx => afterOp call pn dst ih η ds q nx
  | .sliceToArrayPointer _ _ => fun _ _ _ _ _ _ _ _ _ => .no 116
  | .makeInterface t x => fun P call pn dst ih η ds h q => (opMakeinterface P η h t x).bnd fun nx => afterOp call pn dst ih η ds q nx
  | .makeFunc fn first cap => fun P call pn dst ih η ds h q => (opMakefunc P η h fn first cap).bnd fun nx => afterOp call pn dst ih η ds q nx
  | .makeMap t x => fun P call pn dst ih η ds h q => (opMM P η h t x).bnd fun nx => afterOp call pn dst ih η ds q nx
  | .makeChan _ _ => fun _ _ _ _ _ _ _ _ _ => .no 116
  | .makeSlice t l c => fun P call pn dst ih η ds h q => (opMakeslice P η h t l c).bnd fun nx => afterOp call pn dst ih η ds q nx
  | .slice t x lo hi mx => fun P call pn dst ih η ds h q => (opSlice P η h t x lo hi mx).bnd fun nx => afterOp call pn dst ih η ds q nx
  | .fieldAddr s x f => fun P call pn dst ih η ds h q => (opFieldaddr P η h s x f).bnd fun nx => afterOp call pn dst ih η ds q nx
  | .field t x f => fun P call pn dst ih η ds h q => (opField P η h t x f).bnd fun nx => afterOp call pn dst ih η ds q nx
  | .indexAddr t x ix => fun P call pn dst ih η ds h q => (opIndexaddr P η h t x ix).bnd fun nx => afterOp call pn dst ih η ds q nx
  | .index t x ix => fun P call pn dst ih η ds h q => (opIndex P η h t x ix).bnd fun nx => afterOp call pn dst ih η ds q nx
  | .lookup t x ix ok => fun P call pn dst ih η ds h q => (opLookup P η h t x ix ok).bnd fun nx => afterOp call pn dst ih η ds q nx
  | .mapUpdate t m k x => fun P call pn dst ih η ds h q => (opMapupdate P η h t m k x).bnd fun nx => afterOp call pn dst ih η ds q nx
  | .mapEntry _ _ _ => fun _ _ _ _ _ _ _ _ _ => .no 116
  | .entryStore _ _ _ _ => fun _ _ _ _ _ _ _ _ _ => .no 116
  | .range t x => fun P call pn dst ih η ds h q => (opRange P η h t x).bnd fun nx => afterOp call pn dst ih η ds q nx
  | .next x b => fun P call pn dst ih η ds h q => (opNext P η h x b).bnd fun nx => afterOp call pn dst ih η ds q nx
  | .entry _ => fun _ _ _ _ _ _ _ _ _ => .no 116
  | .typeAssert x _ want ok => fun P call pn dst ih η ds h q => (opTypeassert P η h x want ok).bnd fun nx => afterOp call pn dst ih η ds q nx
  | .extract t ix => fun P call pn dst ih η ds h q => (opExtract P η h t ix).bnd fun nx => afterOp call pn dst ih η ds q nx
  | .call c => fun P call pn dst ih η ds h q => (opCall P η h c).bnd fun nx => afterOp call pn dst ih η ds q nx
  | .go _ => fun _ _ _ _ _ _ _ _ _ => .no 116
  | .defer c => fun P call pn dst ih η ds h q => (opDefer P η h c).bnd fun nx => afterOp call pn dst ih η ds q nx
  | .panic x => fun P call pn dst ih η ds h q => (opPanic P η h x).bnd fun nx => afterOp call pn dst ih η ds q nx
  | .send _ _ => fun _ _ _ _ _ _ _ _ _ => .no 116
  | .recv _ _ _ => fun _ _ _ _ _ _ _ _ _ => .no 116
  | .select _ _ => fun _ _ _ _ _ _ _ _ _ => .no 116) : Program → Call → Option (Option V) → Option Nat → RegT → Env → V → H → Bool → O (R × Bool)) P call pn dst ih η ds h q
def regSG (P : Program) (all : List Oper) (call : Call) (pn : Option (Option V)) (o : Oper) (ih : RegT) (η : Env) (ds : V) (h : H) (q : Bool) : O (R × Bool) :=
  (wantedB all η o.guard).bnd fun y => bif y then regOp P call pn o.dst ih η ds h q o.op else ih (delD η o.dst) ds h q
theorem regS_g : @regS = @regSG := by
  funext P all call pn o ih η ds h q
  unfold regS regSG
  cases wantedB all η o.guard with
  | no c => rfl
  | ok y =>
    cases y with
    | false => rfl
    | true =>
      show (evOp P o η h).bnd _ = regOp P call pn o.dst ih η ds h q o.op
      obtain ⟨dst, op, t, pos, after, guard⟩ := o
      cases op <;> try rfl
      case move x => show (oval h (opd η x)).bnd _ = (opd η x).bnd _; cases opd η x <;> rfl
      case assign x => show (oval h (opd η x)).bnd _ = (opd η x).bnd _; cases opd η x <;> rfl
      case load t a =>
        show (opLoad P η h t a).bnd _ = (opd η a).bnd _
        unfold opLoad
        cases opd η a with
        | no c => rfl
        | ok v =>
          cases v <;> try rfl
          rename_i b o
          show (oval h (loadV P h t b o)).bnd _ = (loadV P h t b o).bnd _
          cases loadV P h t b o <;> rfl
      case binOp op xt x y yt =>
        show (opBinop P η h op xt x y).bnd _ = (opd η x).bnd _
        unfold opBinop
        cases opd η x with
        | no c => rfl
        | ok a =>
          cases opd η y with
          | no c => rfl
          | ok b =>
            show (oval h (binV P h op xt x y a b)).bnd _ = (binV P h op xt x y a b).bnd _
            cases binV P h op xt x y a b <;> rfl
      case makeMap t x => cases x <;> rfl
def regSF (P : Program) (all : List Oper) (call : Call) (pn : Option (Option V)) (o : Oper) (ih : RegT) (η : Env) (ds : V) (h : H) (q : Bool) : O (R × Bool) := ((match o.guard with
  | none => fun P _ call pn dst ih η ds h q op => regOp P call pn dst ih η ds h q op
  | some p => fun P all call pn dst ih η ds h q op => (wantedB all η (some p)).bnd fun y => bif y then regOp P call pn dst ih η ds h q op else ih (delD η dst) ds h q) : Program → List Oper → Call → Option (Option V) → Option Nat → RegT → Env → V → H → Bool → Op → O (R × Bool)) P all call pn o.dst ih η ds h q o.op
theorem regS_f : @regS = @regSF := by
  rw [regS_g]
  funext P all call pn o ih η ds h q
  unfold regSG regSF
  cases o.guard <;> rfl
def runS1 (P : Program) (all : List Oper) (call : Call) (r : Rw) (rest : List Rw) (ih : RunF) (η : Env) (h : H) : O RunR :=
  bif r.hv then (evOp P r.o η h).bnd fun nx => heavyF P all call r η h rest ih nx
    else (evL P r.o η h).bnd fun v => contF r η true h ih v h
def runSG (P : Program) (all : List Oper) (call : Call) (r : Rw) (rest : List Rw) (ih : RunF) (η : Env) (h : H) : O RunR := ((match r.o.guard with
  | none => fun P all call r rest ih η h => runS1 P all call r rest ih η h
  | some p => fun P all call r rest ih η h => (wantedB all η (some p)).bnd fun y => bif y then runS1 P all call r rest ih η h else contF r η false h ih (.tup .nil) h) : Program → List Oper → Call → Rw → List Rw → RunF → Env → H → O RunR) P all call r rest ih η h
def runDG (P : Program) (all : List Oper) (call : Call) (l : List Rw) : RunF := List.rec (motive := fun _ => RunF) (fun η h => .ok ⟨[], none, η, h⟩) (fun r rest ih η h => runSG P all call r rest ih η h) l
theorem runDF_f : @runDF = @runDG := by
  funext P all call l η h
  induction l generalizing η h with
  | nil => rfl
  | cons r l ih =>
    have ih' : runDF P all call l = runDG P all call l := by funext η h; exact ih η h
    show ((wantedB all η r.o.guard).bnd fun y => runSF P all call r l (runDF P all call l) η h y) = runSG P all call r l (runDG P all call l) η h
    rw [ih']
    unfold runSG
    cases r.o.guard with
    | none => rfl
    | some p =>
      show ((wantedB all η (some p)).bnd _) = ((wantedB all η (some p)).bnd _)
      cases wantedB all η (some p) with
      | no c => rfl
      | ok y => cases y <;> rfl
def evXS (P : Program) (call : Call) (pn : Option (Option V)) (ih : EvT) (c : Code) (η : Env) (ds : V) (h : H) (q : Bool) : O (R × Bool) := ((match c with
    | .skip => fun _ _ _ _ η ds h q => .ok (.nor η ds h, q)
    | .region _ ops d => fun P call pn _ η ds h q => bif d then regDX P call ops η ds h q else reg P ops.toList call pn ops.toList η ds h q
    | .seq a b => fun _ _ _ ih η ds h q => (ih a η ds h q).bnd (evSeq ih b)
    | .cond x a b => fun _ _ _ ih η ds h q => (opd η x).bnd (evCond ih a b η ds h q)
    | .block id b => fun _ _ _ ih η ds h q => (ih b η ds h q).bnd (evBlk id)
    | .loop b => fun _ _ _ ih η ds h q => (ih b η ds h q).bnd (evSeq ih (.loop b))
    | .rangeFunc f ps a b => fun P call _ _ η ds h q => (opd η f).bnd fun f => rfS P call ps a b η ds h q f
    | .exit id => fun _ _ _ _ η ds h q => .ok (.ext id η ds h, q)
    | .scope b => fun _ _ _ ih η ds h q => ih b η ds h q
    | .label _ => fun _ _ _ _ η ds h q => .ok (.nor η ds h, q)
    | .goto _ => fun _ _ _ _ _ _ _ _ => .no 132
    | .ret => fun _ _ _ _ η ds h q => .ok (.ret η ds h, q)
    | .refuse _ => fun _ _ _ _ _ _ _ _ => .no 132) : Program → Call → Option (Option V) → EvT → Env → V → H → Bool → O (R × Bool)) P call pn ih η ds h q
def evX (P : Program) (call : Call) (pn : Option (Option V)) (n : Nat) : EvT := Nat.rec (motive := fun _ => EvT) (fun _ _ _ _ _ => .no 130) (fun _ ih c η ds h q => evXS P call pn ih c η ds h q) n
theorem andB {a b : Bool} (h : (bif a then b else false) = true) : a = true ∧ b = true := by cases a <;> cases b <;> first | exact ⟨rfl, rfl⟩ | cases h
theorem evX_eq {P : Program} {call : Call} {pn : Option (Option V)} : ∀ (n : Nat) (c : Code), codeRegs c = true → ∀ (η : Env) (ds : V) (h : H) (q : Bool), evX P call pn n c η ds h q = ev P call pn n c η ds h q
  | 0, _, _, _, _, _, _ => rfl
  | n + 1, c, hc, η, ds, h, q => by
    have I := evX_eq (P := P) (call := call) (pn := pn) n
    have sq : ∀ (b : Code), codeRegs b = true → ∀ x, evSeq (evX P call pn n) b x = evSeq (ev P call pn n) b x := fun b hb x => by
      obtain ⟨r, z⟩ := x
      cases r with
      | nor η1 ds1 h1 => exact I b hb η1 ds1 h1 z
      | _ => rfl
    cases c with
    | skip => rfl
    | region id ops d =>
      cases d with
      | false => rfl
      | true => exact regDX_eq (show regOkS ops = true from hc) η ds h q
    | seq a b =>
      obtain ⟨h1, h2⟩ := andB (show (bif codeRegs a then codeRegs b else false) = true from hc)
      show (evX P call pn n a η ds h q).bnd (evSeq (evX P call pn n) b) = (ev P call pn n a η ds h q).bnd (evSeq (ev P call pn n) b)
      rw [I a h1]
      cases ev P call pn n a η ds h q with
      | no c => rfl
      | ok x => exact sq b h2 x
    | cond x a b =>
      obtain ⟨h1, h2⟩ := andB (show (bif codeRegs a then codeRegs b else false) = true from hc)
      show (opd η x).bnd (evCond (evX P call pn n) a b η ds h q) = (opd η x).bnd (evCond (ev P call pn n) a b η ds h q)
      cases opd η x with
      | no c => rfl
      | ok v =>
        cases v <;> try rfl
        rename_i t
        cases t with
        | true => exact I a h1 η ds h q
        | false => exact I b h2 η ds h q
    | block id b =>
      show (evX P call pn n b η ds h q).bnd (evBlk id) = (ev P call pn n b η ds h q).bnd (evBlk id)
      rw [I b hc]
    | loop b =>
      show (evX P call pn n b η ds h q).bnd (evSeq (evX P call pn n) (.loop b)) = (ev P call pn n b η ds h q).bnd (evSeq (ev P call pn n) (.loop b))
      rw [I b hc]
      cases ev P call pn n b η ds h q with
      | no c => rfl
      | ok x => exact sq (.loop b) hc x
    | rangeFunc f ps a b => rfl
    | exit id => rfl
    | scope b => exact I b hc η ds h q
    | label l => rfl
    | goto l => rfl
    | ret => rfl
    | refuse w => rfl
def callXS (P : Program) (ih : Call) (pn : Option (Option V)) (f : Nat) (args : V) (h : H) : O E := ((match farG 100000 P.funcs.toList f with
    | none => fun _ _ _ _ _ => .no 133
    | some fn => fun P ih pn args h => ((match fn.body with
      | none => fun _ _ _ _ _ _ => .no 134
      | some b => fun fn P ih pn args h => (evX P ih pn 10000000 b (initEnv args 0 .e) .nil h false).bnd (afterBody P ih fn pn)) : Func → Program → Call → Option (Option V) → V → H → O E) fn P ih pn args h) : Program → Call → Option (Option V) → V → H → O E) P ih pn args h
def RegsOk (P : Program) : Prop := ∀ (f : Nat) (fn : Func) (b : Code), P.funcs[f]? = some fn → fn.body = some b → codeRegs b = true
theorem callXS_eq {P : Program} (hp : RegsOk P) (ih : Call) (pn : Option (Option V)) (f : Nat) (args : V) (h : H) : callXS P ih pn f args h = callS P ih pn f args h := by
  unfold callXS callS
  rw [show farG 100000 P.funcs.toList f = P.funcs[f]? by rw [farG_eq]; simp]
  cases hf : P.funcs[f]? with
  | none => rfl
  | some fn =>
    cases hb : fn.body with
    | none => simp only [hb]
    | some b =>
      simp only [hb]
      rw [evX_eq _ b (hp f fn b hf hb)]
def callXT (P : Program) (ih : Call) : Call := ⟨fun pn f args h => callXS P ih pn f args h, fun b args h => roundS P ih b args h⟩
theorem callXT_eq {P : Program} (hp : RegsOk P) (ih : Call) : callXT P ih = callT P ih := by
  unfold callXT callT
  congr 1
  funext pn f args h
  exact callXS_eq hp ih pn f args h
def callX (P : Program) (n : Nat) : Call := Nat.rec (motive := fun _ => Call) call0 (fun _ ih => callXT P ih) n
theorem callX_eq {P : Program} (hp : RegsOk P) : ∀ n, callX P n = call P n
  | 0 => rfl
  | n + 1 => by
    show callXT P (callX P n) = callT P (call P n)
    rw [callX_eq hp n, callXT_eq hp]
def callXO1 (P : Program) (orc : Nat → V → Bool) (ih : Call) (pn : Option (Option V)) (f : Nat) (args : V) (h : H) : O E := match pn with
  | none => bif orc f args then .ok (.ret (.bool true) h false) else callXS P ih none f args h
  | some p => callXS P ih (some p) f args h
def callXOT (P : Program) (orc : Nat → V → Bool) (ih : Call) : Call := ⟨fun pn f args h => callXO1 P orc ih pn f args h, fun b args h => roundS P ih b args h⟩
def callXO (P : Program) (orc : Nat → V → Bool) (n : Nat) : Call := Nat.rec (motive := fun _ => Call) call0 (fun _ ih => callXOT P orc ih) n
theorem callXO_eq {P : Program} (hp : RegsOk P) (orc : Nat → V → Bool) : ∀ n, callXO P orc n = callO P orc n
  | 0 => rfl
  | n + 1 => by
    show callXOT P orc (callXO P orc n) = callOT P orc (callO P orc n)
    rw [callXO_eq hp orc n]
    unfold callXOT callOT
    congr 1
    funext pn f args h
    unfold callXO1 callOS
    cases pn with
    | none => rw [callXS_eq hp]
    | some p => exact callXS_eq hp _ _ _ _ _
def regsB (P : Program) : Bool := P.funcs.toList.all fun fn => match fn.body with | some b => codeRegs b | none => true
theorem regs_of {P : Program} (h : regsB P = true) : RegsOk P := fun f fn b hf hb => by
  have := List.all_eq_true.1 h fn (Array.mem_toList_iff.2 (Array.mem_of_getElem? hf))
  rw [hb] at this; exact this
end
end Ex
