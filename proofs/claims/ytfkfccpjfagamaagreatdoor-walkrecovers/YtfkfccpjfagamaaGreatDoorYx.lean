import GoSem.Step
namespace Ex
open Go
set_option linter.unusedVariables false
inductive O (α : Type) where
  | ok (a : α)
  | no (why : Nat)
def O.bnd {α β : Type} (x : O α) (f : α → O β) : O β := match x with | .ok a => f a | .no c => .no c
def O.of {α : Type} (c : Nat) (x : Option α) : O α := match x with | some a => .ok a | none => .no c
inductive K where | h | o (p : K) | i (p : K)
  deriving Inhabited, DecidableEq
inductive V where
  | bool (b : Bool) | int (k : IntKind) (n : Int) | str (s : List Nat)
  | nilp | ptr (b : K) (o : Nat) | nils | sl (b : K) (o len cap : Nat) | slu (b : K) (o len drop : Nat)
  | nilmap | map (b : K) | nilfn | fn (f : Nat) (first cap : V) | yld (b : K) | sle
  | nili | iface (t : Nat) (v : V) | agg (l : V) | tup (l : V) | nil | cons (h t : V)
  deriving Inhabited
inductive T (α : Type) where
  | e : T α
  | n (l : T α) (v : Option α) (r : T α) : T α
noncomputable section
def K.succ (k : K) : K := K.rec (.o .h) (fun p _ => .i p) (fun _ ih => .o ih) k
def K.beq (k : K) : K → Bool := K.rec (motive := fun _ => K → Bool) (fun m => K.rec true (fun _ _ => false) (fun _ _ => false) m) (fun _ ih m => K.rec false (fun q _ => ih q) (fun _ _ => false) m) (fun _ ih m => K.rec false (fun _ _ => false) (fun q _ => ih q) m) k
def keyS (ih : Nat → K) (p : Nat) : K := bif Nat.beq p 1 then .h else bif Nat.beq (Nat.mod p 2) 0 then .o (ih (Nat.div p 2)) else .i (ih (Nat.div p 2))
/-- The key of a number, from 1 on. -/
def keyN (n : Nat) : Nat → K := Nat.rec (motive := fun _ => Nat → K) (fun _ => .h) (fun _ ih p => keyS ih p) n
/-- The key of a number, from 0 on. -/
def key (n : Nat) : K := keyN (Nat.succ n) (Nat.succ n)
/-- What is done with a number's key: the number is reckoned first. -/
def keyed {α : Type} (n : Nat) (f : K → α) : α := Nat.rec (f (key 0)) (fun m _ => f (key (Nat.succ m))) n
def T.val {α : Type} (t : T α) : Option α := match t with | .e => none | .n _ v _ => v
def T.lt {α : Type} (t : T α) : T α := match t with | .e => .e | .n l _ _ => l
def T.get {α : Type} (t : T α) (k : K) : Option α := K.rec (motive := fun _ => T α → Option α) (fun t => T.val t) (fun _ ih t => T.rec none (fun l _ _ _ _ => ih l) t) (fun _ ih t => T.rec none (fun _ _ r _ _ => ih r) t) k t
def T.set0 {α : Type} (t : T α) (x : α) : T α := match t with | .e => .n .e (some x) .e | .n l _ r => .n l (some x) r
def T.setL {α : Type} (ih : T α → α → T α) (t : T α) (x : α) : T α := match t with | .e => .n (ih .e x) none .e | .n l v r => .n (ih l x) v r
def T.setR {α : Type} (ih : T α → α → T α) (t : T α) (x : α) : T α := match t with | .e => .n .e none (ih .e x) | .n l v r => .n l v (ih r x)
def T.set {α : Type} (t : T α) (k : K) (x : α) : T α := K.rec (motive := fun _ => T α → α → T α) (fun t x => T.set0 t x) (fun _ ih t x => T.setL ih t x) (fun _ ih t x => T.setR ih t x) k t x
def T.del0 {α : Type} (t : T α) : T α := match t with | .e => .e | .n l _ r => .n l none r
def T.delL {α : Type} (ih : T α → T α) (t : T α) : T α := match t with | .e => .e | .n l v r => .n (ih l) v r
def T.delR {α : Type} (ih : T α → T α) (t : T α) : T α := match t with | .e => .e | .n l v r => .n l v (ih r)
def T.del {α : Type} (t : T α) (k : K) : T α := K.rec (motive := fun _ => T α → T α) (fun t => T.del0 t) (fun _ ih t => T.delL ih t) (fun _ ih t => T.delR ih t) k t
def nthLS (a : Nat) (ih : Nat → Option Nat) (n : Nat) : Option Nat := match n with | 0 => some a | k+1 => ih k
def nthL (l : List Nat) : Nat → Option Nat := List.rec (motive := fun _ => Nat → Option Nat) (fun _ => none) (fun a _ ih n => nthLS a ih n) l
def lenL (l : List Nat) : Nat := List.rec 0 (fun _ _ ih => Nat.succ ih) l
def appL (l : List Nat) (m : List Nat) : List Nat := List.rec m (fun a _ ih => a :: ih) l
def takeLS (ih : List Nat → List Nat) (l : List Nat) : List Nat := match l with | [] => [] | a :: r => a :: ih r
def takeL (n : Nat) : List Nat → List Nat := Nat.rec (motive := fun _ => List Nat → List Nat) (fun _ => []) (fun _ ih l => takeLS ih l) n
def dropLS (ih : List Nat → List Nat) (l : List Nat) : List Nat := match l with | [] => [] | _ :: r => ih r
def dropL (n : Nat) : List Nat → List Nat := Nat.rec (motive := fun _ => List Nat → List Nat) (fun l => l) (fun _ ih l => dropLS ih l) n
structure ME where
  key : V
  val : V
  born : Nat
inductive Ob where
  | cells (ro fz : Bool) (c : T V) (n ty : Nat)
  | map (es : List ME) (clock : Nat)
  | iter (s : List Nat) (pos : Nat)
  | loop (η : T V) (ps : Array Nat) (a b : Code) (st : Nat) (pd : Option Code)
  | dfr
structure H where
  t : T Ob
  next : K
def H.get (h : H) (b : K) : Option Ob := h.t.get b
def H.set (h : H) (b : K) (o : Ob) : H := ⟨h.t.set b o, h.next⟩
def H.new (h : H) (o : Ob) : H := ⟨h.t.set h.next o, h.next.succ⟩
def H.del (h : H) (b : K) : H := ⟨h.t.del b, h.next⟩
-- lists in V
def V.len (v : V) : Nat := V.rec (motive := fun _ => Nat) (fun _ => 0) (fun _ _ => 0) (fun _ => 0) (0) (fun _ _ => 0) (0) (fun _ _ _ _ => 0) (fun _ _ _ _ => 0) (0) (fun _ => 0) (0) (fun _ _ _ _ _ => 0) (fun _ => 0) (0) (0) (fun _ _ _ => 0) (fun _ _ => 0) (fun _ _ => 0) (0) (fun _ _ _ ih => Nat.succ ih) v
def V.app (v : V) : V → V := V.rec (motive := fun _ => V → V) (fun _ => fun l => l) (fun _ _ => fun l => l) (fun _ => fun l => l) (fun l => l) (fun _ _ => fun l => l) (fun l => l) (fun _ _ _ _ => fun l => l) (fun _ _ _ _ => fun l => l) (fun l => l) (fun _ => fun l => l) (fun l => l) (fun _ _ _ _ _ => fun l => l) (fun _ => fun l => l) (fun l => l) (fun l => l) (fun _ _ _ => fun l => l) (fun _ _ => fun l => l) (fun _ _ => fun l => l) (fun l => l) (fun h _ _ ih l => .cons h (ih l)) v
def V.nthS (h : V) (ih : Nat → Option V) (n : Nat) : Option V := match n with | 0 => some h | k+1 => ih k
def V.nth (v : V) : Nat → Option V := V.rec (motive := fun _ => Nat → Option V) (fun _ => fun _ => none) (fun _ _ => fun _ => none) (fun _ => fun _ => none) (fun _ => none) (fun _ _ => fun _ => none) (fun _ => none) (fun _ _ _ _ => fun _ => none) (fun _ _ _ _ => fun _ => none) (fun _ => none) (fun _ => fun _ => none) (fun _ => none) (fun _ _ _ _ _ => fun _ => none) (fun _ => fun _ => none) (fun _ => none) (fun _ => none) (fun _ _ _ => fun _ => none) (fun _ _ => fun _ => none) (fun _ _ => fun _ => none) (fun _ => none) (fun h _ _ ih n => V.nthS h ih n) v
def V.takeS (ih : V → V) (l : V) : V := match l with | .cons h t => .cons h (ih t) | _ => .nil
def V.take (n : Nat) : V → V := Nat.rec (motive := fun _ => V → V) (fun _ => .nil) (fun _ ih l => V.takeS ih l) n
def V.dropS (ih : V → V) (l : V) : V := match l with | .cons _ t => ih t | _ => .nil
def V.drop (n : Nat) : V → V := Nat.rec (motive := fun _ => V → V) (fun l => l) (fun _ ih l => V.dropS ih l) n
def V.cells : V → V
  | .agg l => l
  | v => .cons v .nil
def cellAt (c : T V) (o : Nat) : Option V := keyed o fun k => c.get k
def getCellsS (c : T V) (ih : Nat → O V) (o : Nat) : O V := match cellAt c o with
    | none => .no 1
    | some v => match ih (Nat.succ o) with | .ok l => .ok (.cons v l) | .no e => .no e
def getCells (c : T V) (n : Nat) : Nat → O V := Nat.rec (motive := fun _ => Nat → O V) (fun _ => .ok .nil) (fun _ ih o => getCellsS c ih o) n
def putAt (c : T V) (o : Nat) (x : V) : T V := keyed o fun k => c.set k x
def putCells (c : T V) (l : V) (o : Nat) : T V := V.rec (motive := fun _ => T V → Nat → T V) (fun _ => fun c _ => c) (fun _ _ => fun c _ => c) (fun _ => fun c _ => c) (fun c _ => c) (fun _ _ => fun c _ => c) (fun c _ => c) (fun _ _ _ _ => fun c _ => c) (fun _ _ _ _ => fun c _ => c) (fun c _ => c) (fun _ => fun c _ => c) (fun c _ => c) (fun _ _ _ _ _ => fun c _ => c) (fun _ => fun c _ => c) (fun c _ => c) (fun c _ => c) (fun _ _ _ => fun c _ => c) (fun _ _ => fun c _ => c) (fun _ _ => fun c _ => c) (fun c _ => c) (fun h _ _ ih c o => ih (putAt c o h) (Nat.succ o)) l c o
/-- Values of the program's text. -/
def convS (v : Value) : O V := match v with
  | .bool b => .ok (.bool b) | .int k n => .ok (.int k n) | .string s => .ok (.str (s.data.toList.map UInt8.toNat))
  | .pointer none => .ok .nilp | .slice none n c => bif Nat.beq n 0 then bif Nat.beq c 0 then .ok .nils else .no 2 else .no 2 | .map none => .ok .nilmap
  | .func (.func f) a b => bif Nat.beq a.size 0 then bif Nat.beq b.size 0 then .ok (.fn f .nil .nil) else .no 2 else .no 2 | .nilFunc => .ok .nilfn | .nilIface => .ok .nili
  | _ => .no 2
def convLS (v : Value) (ih : O V) : O V := match convS v with
    | .ok x => (match ih with | .ok l => .ok (.cons x l) | .no e => .no e)
    | .no e => .no e
def convL (l : List Value) : O V := List.rec (.ok .nil) (fun v _ ih => convLS v ih) l
def conv (v : Value) : O V := match v with
  | .agg cs => (convL cs.toList).bnd fun l => .ok (.agg l)
  | .tuple cs => (convL cs.toList).bnd fun l => .ok (.tup l)
  | .iface t x => (convS x).bnd fun y => .ok (.iface t y)
  | v => convS v
abbrev Env := T V
/-- The last of the variables' blocks, and the types' handles. -/
def GB : Nat := 9
def opd (η : Env) (x : Operand) : O V := match x with
  | .tmp t => O.of 3 (η.get (key t))
  | .const v => conv v
  | .global g => bif Nat.ble g GB then .ok (.ptr (key g) 0) else .no 3
  | .func f => .ok (.fn f .nil .nil)
def opdsS (η : Env) (x : Operand) (ih : O V) : O V := (opd η x).bnd fun v => ih.bnd fun l => .ok (.cons v l)
def opds (η : Env) (l : List Operand) : O V := List.rec (.ok .nil) (fun x _ ih => opdsS η x ih) l
def agg? (P : Program) (t : Nat) : Option Bool := match P.underlying t with | some (.struct _) => some true | some (.array _ _) => some true | some _ => some false | none => none
def zero (P : Program) (t : Nat) : O V := match (P.info? t).bind (·.zero) with | some v => conv v | none => .no 4
def loadV (P : Program) (h : H) (t : Nat) (b : K) (o : Nat) : O V := match h.get b with
  | some (.cells _ _ c n _) => (match agg? P t with
    | some true => bif Nat.ble (o + P.cellsOf t) n then (getCells c (P.cellsOf t) o).bnd fun l => .ok (.agg l) else .no 5
    | some false => bif Nat.ble (Nat.succ o) n then O.of 5 (cellAt c o) else .no 5
    | none => .no 6)
  | _ => .no 7
/-- A value that a variable may have: one cell, or a row. -/
def plainV (v : V) : Bool := match v with
  | .tup _ => false | .nil => false | .cons _ _ => false | _ => true
def storeV (P : Program) (h : H) (t : Nat) (b : K) (o : Nat) (v : V) : O H := match h.get b with
  | some (.cells ro fz c n ty) => bif ro then .no 8 else bif fz then .no 8 else
    bif plainV v then bif Nat.beq v.cells.len (P.cellsOf t) then bif Nat.ble 1 (P.cellsOf t) then bif Nat.ble (o + P.cellsOf t) n then .ok (h.set b (.cells ro fz (putCells c v.cells o) n ty)) else .no 8 else .no 8 else .no 8 else .no 8
  | _ => .no 9
def newRow (h : H) (e : Nat) (l : V) : H := h.new (.cells false false (putCells .e l 0) l.len e)
def newV (h : H) (t : Nat) (v : V) : O (V × H) := bif plainV v then .ok (.ptr h.next 0, newRow h t v.cells) else .no 8
def fillS (p : (Nat × Nat) × V) (ih : V → O V) (cells : V) : O V := bif plainV p.2 then bif Nat.beq p.2.cells.len p.1.2 then bif Nat.ble (Nat.add p.1.1 p.1.2) cells.len then ih ((cells.take p.1.1).app (p.2.cells.app (cells.drop (Nat.add p.1.1 p.1.2)))) else .no 10 else .no 10 else .no 10
def fillAt (cells : V) (l : List ((Nat × Nat) × V)) : O V := List.rec (motive := fun _ => V → O V) (fun c => .ok c) (fun p _ ih c => fillS p ih c) l cells
def rep (z : V) (n : Nat) : V := Nat.rec .nil (fun _ ih => z.app ih) n
def wrapI (k : IntKind) (n : Int) : Int := match k, n with
  | .i64, .ofNat m => bif Nat.ble m 9223372036854775807 then .ofNat m else k.wrap n
  | _, _ => k.wrap n
def beqLS (a : Nat) (ih : List Nat → Bool) (l : List Nat) : Bool := match l with | [] => false | b :: s => bif Nat.beq (Nat.mod a 256) (Nat.mod b 256) then ih s else false
def isNilL (l : List Nat) : Bool := match l with | [] => true | _ => false
def beqL (l : List Nat) : List Nat → Bool := List.rec (motive := fun _ => List Nat → Bool) isNilL (fun a _ ih m => beqLS a ih m) l
def ltLS (a : Nat) (ih : List Nat → Bool) (l : List Nat) : Bool := match l with | [] => false | b :: s => bif Nat.blt (Nat.mod a 256) (Nat.mod b 256) then true else bif Nat.beq (Nat.mod a 256) (Nat.mod b 256) then ih s else false
def ltL (l : List Nat) : List Nat → Bool := List.rec (motive := fun _ => List Nat → Bool) (fun m => bif isNilL m then false else true) (fun a _ ih m => ltLS a ih m) l
def kindN (k : IntKind) : Nat := match k with | .i8 => 0 | .i16 => 1 | .i32 => 2 | .i64 => 3 | .u8 => 4 | .u16 => 5 | .u32 => 6 | .u64 => 7
def kindB (a b : IntKind) : Bool := Nat.beq (kindN a) (kindN b)
def eqI (a b : Int) : Bool := match a, b with
  | .ofNat m, .ofNat n => Nat.beq m n
  | .negSucc m, .negSucc n => Nat.beq m n
  | _, _ => false
def leI (a b : Int) : Bool := match a, b with
  | .ofNat m, .ofNat n => Nat.ble m n
  | .negSucc m, .negSucc n => Nat.ble n m
  | .negSucc _, .ofNat _ => true
  | .ofNat _, .negSucc _ => false
def unfrozen (h : H) (b : K) : Bool := match h.get b with | some (.cells _ fz _ _ _) => bif fz then false else true | _ => false
def roAt (h : H) (b : K) : Bool := match h.get b with | some (.cells ro _ _ _ _) => ro | _ => false
/-- Two places of two blocks of ours are two. -/
def farOk (h : H) (b c : K) (o q : Nat) : Bool := bif unfrozen h b then bif unfrozen h c then bif roAt h b then bif roAt h c then bif Nat.beq o 0 then Nat.beq q 0 else false else true else true else false else false
def partV (P : Program) (t : Nat) (l : V) (off : Nat) : O V := match agg? P t with
  | some true => .ok (.agg (V.take (P.cellsOf t) (V.drop off l)))
  | some false => O.of 11 (l.nth off)
  | none => .no 12
def eqFS (P : Program) (eq : Nat → V → V → O Bool) (f : Field) (ih : V → V → O Bool) (xs ys : V) : O Bool := bif f.name == "_" then ih xs ys else
      (partV P f.type xs f.offset).bnd fun a => (partV P f.type ys f.offset).bnd fun b => (eq f.type a b).bnd fun q => bif q then ih xs ys else .ok false
def eqF (P : Program) (eq : Nat → V → V → O Bool) (l : List Field) : V → V → O Bool := List.rec (motive := fun _ => V → V → O Bool) (fun _ _ => .ok true) (fun f _ ih xs ys => eqFS P eq f ih xs ys) l
def eqS (P : Program) (h : H) (ih : Nat → V → V → O Bool) (t : Nat) (x y : V) : O Bool := match P.underlying t with
    | none => .no 14
    | some u => match u, x, y with
      | .bool, .bool a, .bool b => .ok (a == b)
      | .int _, .int k a, .int k' b => bif kindB k k' then .ok (eqI a b) else .no 15
      | .string, .str a, .str b => .ok (beqL a b)
      | .pointer _, .nilp, .nilp => .ok true
      | .pointer _, .nilp, .ptr _ _ => .ok false
      | .pointer _, .ptr _ _, .nilp => .ok false
      | .pointer e, .ptr b o, .ptr c q => bif Nat.beq (P.cellsOf e) 0 then .no 16 else bif K.beq b c then .ok (Nat.beq o q) else bif farOk h b c o q then .ok false else .no 17
      | .interface _, .nili, .nili => .ok true
      | .interface _, .nili, .iface _ _ => .ok false
      | .interface _, .iface _ _, .nili => .ok false
      | .interface _, .iface tx vx, .iface ty vy => bif Nat.beq tx ty then (match P.info? tx with
          | some i => bif i.comparable then ih tx vx vy else .no 18
          | none => .no 19) else .ok false
      | .struct fields, .agg xs, .agg ys => bif P.stoodInHeld t then .no 20 else eqF P ih fields.toList xs ys
      | .slice _, .nils, .nils => .ok true
      | .slice _, .nils, .sl _ _ _ _ => .ok false
      | .slice _, .nils, .slu _ _ _ _ => .ok false
      | .slice _, .nils, .sle => .ok false
      | .slice _, .sle, .nils => .ok false
      | .slice _, .sl _ _ _ _, .nils => .ok false
      | .slice _, .slu _ _ _ _, .nils => .ok false
      | .map _ _, .nilmap, .nilmap => .ok true
      | .map _ _, .nilmap, .map _ => .ok false
      | .map _ _, .map _, .nilmap => .ok false
      | .func _ _ _, .nilfn, .nilfn => .ok true
      | .func _ _ _, .nilfn, .fn _ _ _ => .ok false
      | .func _ _ _, .fn _ _ _, .nilfn => .ok false
      | _, _, _ => .no 21
def eqV (P : Program) (h : H) (d : Nat) : Nat → V → V → O Bool := Nat.rec (motive := fun _ => Nat → V → V → O Bool) (fun _ _ _ => .no 13) (fun _ ih t x y => eqS P h ih t x y) d
def isC : Operand → Bool
  | .const _ => true
  | _ => false
def binI2 (op : BinOp) (k : IntKind) (a b : Int) : O V := match op with
      | .add => .ok (.int k (wrapI k (a + b)))
      | .sub => .ok (.int k (wrapI k (a - b)))
      | .mul => .ok (.int k (wrapI k (a * b)))
      | .quo => bif eqI b 0 then .no 25 else .ok (.int k (k.wrap (a.tdiv b)))
      | .rem => bif eqI b 0 then .no 26 else .ok (.int k (a.tmod b))
      | .eql => .ok (.bool (eqI a b))
      | .neq => .ok (.bool (!eqI a b))
      | .lss => .ok (.bool (!leI b a))
      | .leq => .ok (.bool (leI a b))
      | .gtr => .ok (.bool (!leI a b))
      | .geq => .ok (.bool (leI b a))
      | .and => .ok (.int k (k.wrap ((BitVec.ofInt k.bits a &&& BitVec.ofInt k.bits b).toNat)))
      | .or => .ok (.int k (k.wrap ((BitVec.ofInt k.bits a ||| BitVec.ofInt k.bits b).toNat)))
      | _ => .no 27
def binI (op : BinOp) (k : IntKind) (a : Int) (k' : IntKind) (b : Int) : O V := match op with
    | .shl => .no 22
    | .shr => (match b with | .ofNat m => .ok (.int k (a.fdiv (2 ^ (min m k.bits)))) | _ => .no 23)
    | _ => bif kindB k k' then binI2 op k a b else .no 28
def binS (op : BinOp) (a b : List Nat) : O V := match op with
    | .add => bif Nat.ble (lenL a + lenL b) 1000000 then .ok (.str (appL a b)) else .no 29
    | .eql => .ok (.bool (beqL a b))
    | .neq => .ok (.bool (!beqL a b))
    | .lss => .ok (.bool (ltL a b))
    | .leq => .ok (.bool (ltL a b || beqL a b))
    | .gtr => .ok (.bool (!(ltL a b || beqL a b)))
    | .geq => .ok (.bool (!ltL a b))
    | _ => .no 29
/-- May two values be held against each other: not two nil values of an interface type, unless one stands in the text. -/
def eqG (P : Program) (xt : Nat) (ox oy : Operand) (x y : V) : Bool := match x, y with
      | .nili, .nili => isC ox || isC oy
      | .agg _, .agg _ => !(P.eqGuardType P.depth xt)
      | _, _ => true
def binE (P : Program) (h : H) (op : BinOp) (xt : Nat) (ox oy : Operand) (x y : V) : O V :=
    bif eqG P xt ox oy x y then (match op with
      | .eql => (eqV P h 50 xt x y).bnd fun b => .ok (.bool b)
      | .neq => (eqV P h 50 xt x y).bnd fun b => .ok (.bool (!b))
      | _ => .no 30) else .no 31
def plainN (v : V) : Bool := match v with | .int _ _ => false | .str _ => false | _ => true
def binV (P : Program) (h : H) (op : BinOp) (xt : Nat) (ox oy : Operand) (x y : V) : O V := match x, y with
  | .int k a, .int k' b => binI op k a k' b
  | .str a, .str b => binS op a b
  | x, y => bif plainN x then bif plainN y then binE P h op xt ox oy x y else .no 31 else .no 31
def natI (v : V) : Option Nat := match v with | .int _ (.ofNat n) => some n | _ => none
def natO (v : Option V) (n : Nat) : Option Nat := match v with | some v => natI v | none => some n
/-- The bounds of a slicing: not more than so much. -/
def bnds (lo hi : Option V) (len most : Nat) : O (Nat × Nat) := match natO lo 0, natO hi len with
  | some a, some b => bif Nat.ble a b then bif Nat.ble b most then .ok (a, b) else .no 34 else .no 34
  | _, _ => .no 33
def sliceV (P : Program) (t : Nat) (x : V) (lo hi : Option V) : O V :=
  match P.underlying t, x with
  | some .string, .str s => (bnds lo hi (lenL s) (lenL s)).bnd fun p => .ok (.str (takeL (p.2 - p.1) (dropL p.1 s)))
  | some (.slice e), .sl bk o len cap => bif Nat.ble 1 (P.cellsOf e) then (bnds lo hi len cap).bnd fun p => .ok (.sl bk (bif Nat.beq p.1 cap then o else o + p.1 * P.cellsOf e) (p.2 - p.1) (cap - p.1)) else .no 35
  | some (.slice e), .slu bk o len d => bif Nat.ble 1 (P.cellsOf e) then (bnds lo hi len len).bnd fun p => bif Nat.blt p.1 len then .ok (.slu bk (o + p.1 * P.cellsOf e) (p.2 - p.1) (d + p.1)) else .ok .sle else .no 35
  | some (.slice e), .nils => bif Nat.ble 1 (P.cellsOf e) then (bnds lo hi 0 0).bnd fun _ => .ok .nils else .no 35
  | some (.array n e), .ptr bk o => bif Nat.ble 1 (P.cellsOf e) then (bnds lo hi n n).bnd fun p => .ok (.sl bk (bif Nat.beq p.1 n then o else o + p.1 * P.cellsOf e) (p.2 - p.1) (n - p.1)) else .no 35
  | _, _ => .no 38
def opdO (η : Env) (o : Option Operand) : O (Option V) := match o with | none => .ok none | some z => (opd η z).bnd fun v => .ok (some v)
def bytS (x : V) (ih : O (List Nat)) : O (List Nat) := match x with
  | .int .u8 (.ofNat n) => (match ih with | .ok l => .ok (n :: l) | .no e => .no e)
  | _ => .no 39
def bytesOfCells (l : V) : O (List Nat) := V.rec (motive := fun _ => O (List Nat)) (fun _ => .ok []) (fun _ _ => .ok []) (fun _ => .ok []) (.ok []) (fun _ _ => .ok []) (.ok []) (fun _ _ _ _ => .ok []) (fun _ _ _ _ => .ok []) (.ok []) (fun _ => .ok []) (.ok []) (fun _ _ _ _ _ => .ok []) (fun _ => .ok []) (.ok []) (.ok []) (fun _ _ _ => .ok []) (fun _ _ => .ok []) (fun _ _ => .ok []) (.ok []) (fun x _ _ ih => bytS x ih) l
def cellsOfBytes (l : List Nat) : V := List.rec .nil (fun b _ ih => .cons (.int .u8 (.ofNat (Nat.mod b 256))) ih) l
def rowOf (h : H) (b : K) (o n : Nat) : O V := match h.get b with
  | some (.cells _ _ c m _) => bif Nat.ble (o + n) m then getCells c n o else .no 40
  | _ => .no 40
def bytesRow (P : Program) (h : H) (e : Nat) (b : K) (o n : Nat) : O (V × H) := match P.underlying e with
  | some (.int .u8) => (rowOf h b o n).bnd fun l => (bytesOfCells l).bnd fun s => .ok (.str s, h)
  | _ => .no 41
/-- A place that is there, of a variable of so many cells. -/
def placed (h : H) (b : K) (o n : Nat) : Bool := match h.get b with
  | some (.cells _ _ _ m _) => Nat.ble (o + n) m
  | _ => false
def typed (P : Program) (h : H) (b : K) (o u : Nat) : Bool := match h.get b with
  | some (.cells ro _ _ m ty) => bif ro then false else bif Nat.beq o 0 then bif Nat.beq (P.underlyingId ty) (P.underlyingId u) then bif Nat.ble 1 (P.cellsOf ty) then bif Nat.ble 1 (P.cellsOf u) then Nat.ble (P.cellsOf ty) m else false else false else false else false
  | _ => false
def convertV (P : Program) (h : H) (s d : Nat) (x : V) : O (V × H) := match P.underlying s, P.underlying d, x with
  | some (.int _), some (.int k), .int _ n => .ok (.int k (k.wrap n), h)
  | some .string, some .string, .str s => .ok (.str s, h)
  | some (.slice e), some .string, .nils => (match P.underlying e with | some (.int .u8) => .ok (.str [], h) | _ => .no 43)
  | some (.slice e), some .string, .sl b o n _ => bytesRow P h e b o n
  | some (.slice e), some .string, .slu b o n _ => bytesRow P h e b o n
  | some (.pointer _), some .unsafePointer, .nilp => .ok (.nilp, h)
  | some (.pointer t), some .unsafePointer, .ptr b o => bif Nat.beq (P.cellsOf t) 0 then .no 43 else bif placed h b o 1 then .ok (.ptr b o, h) else .no 43
  | some .unsafePointer, some (.pointer _), .nilp => .ok (.nilp, h)
  | some .unsafePointer, some (.pointer u), .ptr b o => bif typed P h b o u then .ok (.ptr b o, h) else .no 43
  | _, _, _ => .no 43
/-- An item's type with a zero value of its size. -/
def itemOk (P : Program) (e : Nat) : Bool := match zero P e with
  | .ok z => bif plainV z then bif Nat.ble 1 (P.cellsOf e) then Nat.beq z.cells.len (P.cellsOf e) else false else false
  | .no _ => false
def growOk (P : Program) (e n : Nat) : Bool := Nat.ble ((4 * n + 1000) * P.bytesOf e) 281474976710656 && Nat.ble n 1000000000
/-- A row that grows, where it was ours alone: what it was before is gone. -/
def regrow (P : Program) (h : H) (e : Nat) (b : K) (o len drop n : Nat) (news : V) : O (V × H) := match h.get b with
  | some (.cells ro fz _ _ ty) => bif ro then .no 45 else bif fz then .no 45 else bif Nat.beq ty e then bif Nat.beq o (drop * P.cellsOf e) then bif growOk P e (len + n) then
        (rowOf h b o (len * P.cellsOf e)).bnd fun old => .ok (.slu h.next 0 (len + n) 0, newRow (h.del b) e (old.app news)) else .no 47 else .no 45 else .no 45
  | _ => .no 45
def inPlace (P : Program) (h : H) (e : Nat) (b : K) (o len cap n : Nat) (news : V) : O (V × H) := match h.get b with
  | some (.cells ro fz c m ty) => bif ro then .no 44 else bif fz then .no 44 else bif Nat.ble (o + (len + n) * P.cellsOf e) m then .ok (.sl b o (len + n) cap, h.set b (.cells ro fz (putCells c news (o + len * P.cellsOf e)) m ty)) else .no 44
  | _ => .no 45
def appendV (P : Program) (h : H) (e : Nat) (s : V) (n : Nat) (news : V) : O (V × H) :=
  bif itemOk P e then bif Nat.beq news.len (n * P.cellsOf e) then (match s with
  | .nils => bif Nat.beq n 0 then .ok (.nils, h) else bif growOk P e n then .ok (.slu h.next 0 n 0, newRow h e news) else .no 47
  | .sl b o len cap => bif Nat.ble (len + n) cap then inPlace P h e b o len cap n news
    else bif growOk P e (len + n) then (rowOf h b o (len * P.cellsOf e)).bnd fun old => .ok (.slu h.next 0 (len + n) 0, newRow h e (old.app news)) else .no 47
  | .slu b o len drop => bif Nat.beq n 0 then .ok (.slu b o len drop, h) else regrow P h e b o len drop n news
  | _ => .no 46) else .no 46 else .no 46
def findKS (k : List Nat) (e : ME) (ih : O (Option V)) : O (Option V) := match e.key with
  | .str s => bif beqL k s then .ok (some e.val) else ih
  | _ => .no 89
def findK (k : List Nat) (l : List ME) : O (Option V) := List.rec (.ok none) (fun e _ ih => findKS k e ih) l
def setKS (k : List Nat) (v : V) (e : ME) (r : List ME) (ih : O (List ME × Bool)) : O (List ME × Bool) := match e.key with
  | .str s => bif beqL k s then .ok (⟨.str k, v, e.born⟩ :: r, true) else ih.bnd fun p => .ok (e :: p.1, p.2)
  | _ => .no 89
/-- An entry is written; true: it was there. -/
def setK (k : List Nat) (v : V) (clock : Nat) (l : List ME) : O (List ME × Bool) := List.rec (.ok ([⟨.str k, v, clock⟩], false)) (fun e r ih => setKS k v e r ih) l
/-- Maps of strings. -/
def mapS (P : Program) (t : Nat) : Option Nat := match P.underlying t with
  | some (.map k e) => (match P.underlying k with | some .string => some e | _ => none)
  | _ => none
-- maps of numbers
def findIS (kd : IntKind) (k : Int) (e : ME) (ih : O (Option V)) : O (Option V) := match e.key with
  | .int kd' s => bif kindB kd kd' then bif eqI k s then .ok (some e.val) else ih else .no 189
  | _ => .no 189
def findI (kd : IntKind) (k : Int) (l : List ME) : O (Option V) := List.rec (.ok none) (fun e _ ih => findIS kd k e ih) l
def setIS (kd : IntKind) (k : Int) (v : V) (e : ME) (r : List ME) (ih : O (List ME × Bool)) : O (List ME × Bool) := match e.key with
  | .int kd' s => bif kindB kd kd' then bif eqI k s then .ok (⟨.int kd k, v, e.born⟩ :: r, true) else ih.bnd fun p => .ok (e :: p.1, p.2) else .no 189
  | _ => .no 189
def setI (kd : IntKind) (k : Int) (v : V) (clock : Nat) (l : List ME) : O (List ME × Bool) := List.rec (.ok ([⟨.int kd k, v, clock⟩], false)) (fun e r ih => setIS kd k v e r ih) l
def mapI (P : Program) (t : Nat) (kd : IntKind) : Option Nat := match P.underlying t with
  | some (.map k e) => (match P.underlying k with | some (.int kd') => bif kindB kd kd' then some e else none | _ => none)
  | _ => none
/-- Operations that end in a value. -/
inductive Nx where
  | val (v : V) (h : H)
  | skip (h : H)
  | enter (f : Nat) (args : V) (h : H)
  | defer (f : Nat) (args : V) (h : H)
  | recover (h : H)
  | pan (v : V) (h : H)
  | round (b : K) (args : V) (h : H)
def ixS (c a : Nat) (ih : Int) : Int := bif Nat.beq (Nat.mod a 256) c then .ofNat 0 else (match ih with | .ofNat n => .ofNat (Nat.succ n) | .negSucc _ => .negSucc 0)
def ixL (c : Nat) (l : List Nat) : Int := List.rec (.negSucc 0) (fun a _ ih => ixS c a ih) l
/-- Where a byte stands in a text. -/
def ixV (args : V) (h : H) : O Nx := match args with
  | .cons (.str s) (.cons (.int .u8 (.ofNat c)) .nil) => bif Nat.blt c 256 then .ok (.val (.int .i64 (ixL c s)) h) else .no 52
  | _ => .no 52
def callF (P : Program) (h : H) (f : Nat) (args : V) : O Nx := match P.funcs[f]? with
  | none => .no 48
  | some fn => bif fn.body.isNone then
      (bif fn.name == "internal/reflectlite.TypeOf" then (match args with
          | .cons .nili .nil => .ok (.val .nili h)
          | .cons (.iface t _) .nil => (match P.cutTypes.find? (·.1 == "internal/reflectlite.rtype") with
            | some (_, r) => .ok (.val (.iface r (.agg (.cons (.ptr (key P.globals.size) t) .nil))) h)
            | none => .no 49)
          | _ => .no 50)
       else bif fn.name == "(internal/reflectlite.rtype).Comparable" then (match args with
          | .cons (.agg (.cons (.ptr b t) .nil)) .nil => bif K.beq b (key P.globals.size) then (bif P.packed t then .no 51 else bif P.holdsPacked P.depth t then .no 51 else match P.info? t with | some i => .ok (.val (.bool i.comparable) h) | none => .no 51) else .no 51
          | _ => .no 52)
       else bif fn.name == "internal/abi.NoEscape" then (match args with
          | .cons x .nil => .ok (.val x h)
          | _ => .no 52)
       else bif fn.name == "internal/bytealg.IndexByteString" then ixV args h
       else .no (1000000 + f))
    else .ok (.enter f args h)
def invokeV (P : Program) (h : H) (recv : V) (name : String) (args : V) : O Nx := match recv with
  | .iface t v => (match (P.info? t).bind fun i => i.methods.find? (·.name == name) with
    | some m => bif m.path.isEmpty then (match m.func, P.underlying t with
        | some (f, true), some (.pointer _) => callF P h f (.cons v args)
        | some (_, false), some (.pointer _) => .no 53
        | some (f, false), some _ => callF P h f (.cons v args)
        | _, _ => .no 53) else .no 54
    | none => .no 55)
  | _ => .no 56
def zipS (f : Nat → Option (Nat × Nat)) (i : Nat) (ih : V → O (List ((Nat × Nat) × V))) (l : V) : O (List ((Nat × Nat) × V)) := match l with
    | .cons v t => (match f i with | some p => (ih t).bnd fun r => .ok ((p, v) :: r) | none => .no 10)
    | _ => .no 10
def zipF (f : Nat → Option (Nat × Nat)) (l : List Nat) : V → O (List ((Nat × Nat) × V)) := List.rec (motive := fun _ => V → O (List ((Nat × Nat) × V))) (fun _ => .ok []) (fun i _ ih v => zipS f i ih v) l
def fillZ (f : Nat → Option (Nat × Nat)) (cells : V) (l : List Nat) (vs : V) : O V := (zipF f l vs).bnd fun r => fillAt cells r
def oval (h : H) (x : O V) : O Nx := match x with | .ok v => .ok (.val v h) | .no c => .no c
def ovalh (x : O (V × H)) : O Nx := match x with | .ok (v, h) => .ok (.val v h) | .no c => .no c
def opMove (P : Program) (η : Env) (h : H) (x : Operand) : O Nx := oval h (opd η x)
def opPick (P : Program) (η : Env) (h : H) (c : Operand) (a : Operand) (b : Operand) : O Nx := (opd η c).bnd fun c => match c with | .bool q => oval h (bif q then opd η a else opd η b) | _ => .no 60
def opAlloc (P : Program) (η : Env) (h : H) (t : Nat) : O Nx := (zero P t).bnd fun z => ovalh (newV h t z)
def opBox (P : Program) (η : Env) (h : H) (t : Nat) (x : Operand) : O Nx := (opd η x).bnd fun v => ovalh (newV h t v)
def opBuild (P : Program) (η : Env) (h : H) (t : Nat) (parts : Array (Nat × Operand)) : O Nx := (opds η (parts.toList.map (·.2))).bnd fun vs => (zero P t).bnd fun z => bif plainV z then (match P.underlying t with
      | some (.struct fields) => bif fields.all (fun f => Nat.ble 1 (P.cellsOf f.type)) then
          (fillZ (fun i => (fields[i]?).map fun f => (f.offset, P.cellsOf f.type)) z.cells (parts.toList.map (·.1)) vs).bnd fun l => .ok (.val (.agg l) h) else .no 61
      | some (.array _ e) => bif Nat.ble 1 (P.cellsOf e) then (fillZ (fun i => some (i * P.cellsOf e, P.cellsOf e)) z.cells (parts.toList.map (·.1)) vs).bnd fun l => .ok (.val (.agg l) h) else .no 61
      | _ => .no 61) else .no 61
def opBuildslice (P : Program) (η : Env) (h : H) (t : Nat) (len : Nat) (parts : Array (Nat × Operand)) : O Nx := (opds η (parts.toList.map (·.2))).bnd fun vs => match P.underlying t with
      | some (.slice e) => (zero P e).bnd fun z => bif plainV z then bif Nat.ble 1 (P.cellsOf e) then bif Nat.beq z.cells.len (P.cellsOf e) then bif Nat.ble (len * P.cellsOf e) 16777216 then
          (fillZ (fun i => some (i * P.cellsOf e, P.cellsOf e)) (rep z.cells len) (parts.toList.map (·.1)) vs).bnd fun l =>
          .ok (.val (.sl h.next 0 len len) (newRow h e l)) else .no 62 else .no 62 else .no 62 else .no 62
      | _ => .no 62
def opLoad (P : Program) (η : Env) (h : H) (t : Nat) (a : Operand) : O Nx := (opd η a).bnd fun a => match a with | .ptr b o => oval h (loadV P h t b o) | _ => .no 63
def opStore (P : Program) (η : Env) (h : H) (t : Nat) (a : Operand) (x : Operand) : O Nx := (opd η a).bnd fun a => (opd η x).bnd fun v => match a with | .ptr b o => (storeV P h t b o v).bnd fun h => .ok (.skip h) | _ => .no 64
def opNilcheck (P : Program) (η : Env) (h : H) (x : Operand) : O Nx := (opd η x).bnd fun v => match v with | .nilp => .no 65 | .nili => .no 66 | .nilfn => .no 67 | v => .ok (.val v h)
def opBinop (P : Program) (η : Env) (h : H) (op : BinOp) (xt : Nat) (x : Operand) (y : Operand) : O Nx := (opd η x).bnd fun a => (opd η y).bnd fun b => oval h (binV P h op xt x y a b)
def opUnop (P : Program) (η : Env) (h : H) (op : UnOp) (x : Operand) : O Nx := (opd η x).bnd fun v => match op, v with
      | .not, .bool b => .ok (.val (.bool (!b)) h)
      | .neg, .int k n => .ok (.val (.int k (k.wrap (0 - n))) h)
      | _, _ => .no 68
def opConvert (P : Program) (η : Env) (h : H) (s : Nat) (d : Nat) (x : Operand) : O Nx := (opd η x).bnd fun v => ovalh (convertV P h s d v)
def opMakeinterface (P : Program) (η : Env) (h : H) (t : Nat) (x : Operand) : O Nx := (opd η x).bnd fun v => match P.underlying t with | some (.interface _) => .no 69 | some _ => .ok (.val (.iface t v) h) | none => .no 70
def opMakefunc (P : Program) (η : Env) (h : H) (fn : Fn) (first : Array Operand) (cap : Array Operand) : O Nx := (opds η first.toList).bnd fun a => (opds η cap.toList).bnd fun b => match fn with | .func f => .ok (.val (.fn f a b) h) | _ => .no 71
def opMakemap0 (P : Program) (η : Env) (h : H) : O Nx := .ok (.val (.map h.next) (h.new (.map [] 0)))
def opMakemap (P : Program) (η : Env) (h : H) (t : Nat) (x : Operand) : O Nx := (opd η x).bnd fun v => match P.underlying t, v with | some (.map _ _), .int _ _ => .ok (.val (.map h.next) (h.new (.map [] 0))) | _, _ => .no 75
def opMakeslice (P : Program) (η : Env) (h : H) (t : Nat) (l : Operand) (c : Operand) : O Nx := (opd η l).bnd fun l => (opd η c).bnd fun c => match P.underlying t, natI l, natI c with
      | some (.slice e), some l, some c => bif itemOk P e then bif Nat.ble l c then bif Nat.ble c 100000 then bif growOk P e c then (zero P e).bnd fun z => .ok (.val (.sl h.next 0 l c) (newRow h e (rep z.cells c))) else .no 72 else .no 72 else .no 72 else .no 72
      | _, _, _ => .no 73
def opSlice (P : Program) (η : Env) (h : H) (t : Nat) (x : Operand) (lo : Option Operand) (hi : Option Operand) (mx : Option Operand) : O Nx := (opd η x).bnd fun v => (opdO η lo).bnd fun a => (opdO η hi).bnd fun b => match mx with
      | some _ => .no 74
      | none => oval h (sliceV P t v a b)
def opFieldaddr (P : Program) (η : Env) (h : H) (s : Nat) (x : Operand) (f : Nat) : O Nx := (opd η x).bnd fun v => match v, P.underlying s with
      | .ptr b o, some (.struct fields) => (match fields[f]? with | some fd => bif Nat.beq (P.cellsOf fd.type) 0 then .no 77 else .ok (.val (.ptr b (o + fd.offset)) h) | none => .no 78)
      | _, _ => .no 79
def opField (P : Program) (η : Env) (h : H) (t : Nat) (x : Operand) (f : Nat) : O Nx := (opd η x).bnd fun v => match v, P.underlying t with
      | .agg l, some (.struct fields) => (match fields[f]? with | some fd => oval h (partV P fd.type l fd.offset) | none => .no 80)
      | _, _ => .no 81
def idxAt (P : Program) (h : H) (e : Nat) (b : K) (o i n : Nat) : O Nx := bif Nat.blt i n then bif Nat.ble 1 (P.cellsOf e) then .ok (.val (.ptr b (o + i * P.cellsOf e)) h) else .no 82 else .no 83
def opIndexaddr (P : Program) (η : Env) (h : H) (t : Nat) (x : Operand) (ix : Operand) : O Nx := (opd η x).bnd fun v => (opd η ix).bnd fun i => match P.underlying t, v, natI i with
      | some (.array n e), .ptr b o, some i => idxAt P h e b o i n
      | some (.slice e), .sl b o n _, some i => idxAt P h e b o i n
      | some (.slice e), .slu b o n _, some i => idxAt P h e b o i n
      | _, _, _ => .no 85
def opIndex (P : Program) (η : Env) (h : H) (t : Nat) (x : Operand) (ix : Operand) : O Nx := (opd η x).bnd fun v => (opd η ix).bnd fun i => match P.underlying t, v, natI i with
      | some (.array n e), .agg l, some i => bif Nat.blt i n then bif Nat.ble 1 (P.cellsOf e) then oval h (partV P e l (i * P.cellsOf e)) else .no 86 else .no 86
      | some .string, .str s, some i => (match nthL s i with | some c => .ok (.val (.int .u8 (.ofNat (Nat.mod c 256))) h) | none => .no 87)
      | _, _, _ => .no 88
def pairV (ok : Bool) (v : V) (b : Bool) (h : H) : O Nx := .ok (.val (bif ok then .tup (.cons v (.cons (.bool b) .nil)) else v) h)
def lookS (P : Program) (h : H) (t : Nat) (ok : Bool) (m : V) (k : List Nat) : O Nx := match mapS P t, m with
      | some e, .nilmap => (zero P e).bnd fun z => pairV ok z false h
      | some e, .map b => (match h.get b with
        | some (.map es _) => (findK k es).bnd fun r => (match r with
          | some v => pairV ok v true h
          | none => (zero P e).bnd fun z => pairV ok z false h)
        | _ => .no 89)
      | _, _ => .no 90
def lookI (P : Program) (h : H) (t : Nat) (ok : Bool) (m : V) (kd : IntKind) (k : Int) : O Nx := match mapI P t kd, m with
      | some e, .nilmap => (zero P e).bnd fun z => pairV ok z false h
      | some e, .map b => (match h.get b with
        | some (.map es _) => (findI kd k es).bnd fun r => (match r with
          | some v => pairV ok v true h
          | none => (zero P e).bnd fun z => pairV ok z false h)
        | _ => .no 89)
      | _, _ => .no 190
def opLookup (P : Program) (η : Env) (h : H) (t : Nat) (x : Operand) (ix : Operand) (ok : Bool) : O Nx := (opd η x).bnd fun m => (opd η ix).bnd fun k => match k with
      | .str k => lookS P h t ok m k
      | .int kd k => lookI P h t ok m kd k
      | _ => .no 90
def updS (P : Program) (h : H) (t : Nat) (m : V) (k : List Nat) (x : V) : O Nx := match mapS P t, m with
      | some _, .map b => (match h.get b with
        | some (.map es c) => (setK k x c es).bnd fun p => .ok (.skip (h.set b (.map p.1 (bif p.2 then c else Nat.succ c))))
        | _ => .no 91)
      | _, _ => .no 92
def updI (P : Program) (h : H) (t : Nat) (m : V) (kd : IntKind) (k : Int) (x : V) : O Nx := match mapI P t kd, m with
      | some _, .map b => (match h.get b with
        | some (.map es c) => (setI kd k x c es).bnd fun p => .ok (.skip (h.set b (.map p.1 (bif p.2 then c else Nat.succ c))))
        | _ => .no 91)
      | _, _ => .no 192
def opMapupdate (P : Program) (η : Env) (h : H) (t : Nat) (m : Operand) (k : Operand) (x : Operand) : O Nx := (opd η m).bnd fun m => (opd η k).bnd fun k => (opd η x).bnd fun x => match k with
      | .str k => updS P h t m k x
      | .int kd k => updI P h t m kd k x
      | _ => .no 92
def opRange (P : Program) (η : Env) (h : H) (t : Nat) (x : Operand) : O Nx := (opd η x).bnd fun v => match P.underlying t, v with
  | some .string, .str s => .ok (.val (.ptr h.next 0) (h.new (.iter s 0)))
  | _, _ => .no 140
def opNext (P : Program) (η : Env) (h : H) (x : Operand) (isS : Bool) : O Nx := (opd η x).bnd fun v => match v, isS with
  | .ptr b 0, true => (match h.get b with
    | some (.iter s pos) => (match nthL s pos with
      | some c => bif Nat.blt c 128 then .ok (.val (.tup (.cons (.bool true) (.cons (.int .i64 (.ofNat pos)) (.cons (.int .i32 (.ofNat c)) .nil)))) (h.set b (.iter s (Nat.succ pos)))) else .no 141
      | none => .ok (.val (.tup (.cons (.bool false) .nil)) h))
    | _ => .no 142)
  | _, _ => .no 143
def lacks (want : Array (String × Nat)) (got : Array Method) : Bool := want.toList.any fun p => !got.any fun m => m.name == p.1 && m.sig == p.2
def failsV (P : Program) (h : H) (want : Nat) (ok : Bool) : O Nx := bif ok then (zero P want).bnd fun z => .ok (.val (.tup (.cons z (.cons (.bool false) .nil))) h) else .no 93
def opTypeassert (P : Program) (η : Env) (h : H) (x : Operand) (want : Nat) (ok : Bool) : O Nx := (opd η x).bnd fun v => match P.underlying want, v with
      | some (.interface ms), .iface t x => (match P.info? t with
        | some i => bif lacks ms i.methods then failsV P h want ok else pairV ok (.iface t x) true h
        | none => .no 94)
      | some (.interface _), .nili => failsV P h want ok
      | some _, .nili => failsV P h want ok
      | some _, .iface t x => bif Nat.beq t want then pairV ok x true h else failsV P h want ok
      | _, _ => .no 97
def opExtract (P : Program) (η : Env) (h : H) (t : Operand) (ix : Nat) : O Nx := (opd η t).bnd fun v => match v with | .tup l => oval h (O.of 98 (l.nth ix)) | _ => .no 99
def opPanic (P : Program) (η : Env) (h : H) (x : Operand) : O Nx := (opd η x).bnd fun v => match v with | .iface t x => .ok (.pan (.iface t x) h) | _ => .no 100
def opDefer (P : Program) (η : Env) (h : H) (c : Call) : O Nx := (opds η c.args.toList).bnd fun args => match c.callee with
      | .value f => (opd η f).bnd fun f => (match f with | .fn f first cap => .ok (.defer f ((first.app args).app cap) h) | _ => .no 101)
      | _ => .no 102
def bi_len (P : Program) (h : H) (at_ : Array Nat) (args : V) : O Nx := match args with
  | .cons x .nil => (match (at_[0]?).bind P.underlying, x with
          | some .string, .str s => .ok (.val (.int .i64 (.ofNat (lenL s))) h)
          | some (.slice _), .nils => .ok (.val (.int .i64 (.ofNat 0)) h)
          | some (.slice _), .sl _ _ n _ => .ok (.val (.int .i64 (.ofNat n)) h)
          | some (.slice _), .slu _ _ n _ => .ok (.val (.int .i64 (.ofNat n)) h)
          | some (.slice _), .sle => .ok (.val (.int .i64 (.ofNat 0)) h)
          | some (.map _ _), .nilmap => .ok (.val (.int .i64 (.ofNat 0)) h)
          | some (.map _ _), .map b => (match h.get b with | some (.map es _) => .ok (.val (.int .i64 (.ofNat es.length)) h) | _ => .no 104)
          | some (.array n _), _ => .ok (.val (.int .i64 (.ofNat n)) h)
          | some (.pointer a), _ => (match P.underlying a with | some (.array n _) => .ok (.val (.int .i64 (.ofNat n)) h) | _ => .no 105)
          | _, _ => .no 106)
  | _ => .no 115
def bi_cap (P : Program) (h : H) (at_ : Array Nat) (args : V) : O Nx := match args with
  | .cons x .nil => (match (at_[0]?).bind P.underlying, x with
          | some (.slice _), .nils => .ok (.val (.int .i64 (.ofNat 0)) h)
          | some (.slice _), .sl _ _ _ n => .ok (.val (.int .i64 (.ofNat n)) h)
          | _, _ => .no 107)
  | _ => .no 115
def bi_append (P : Program) (h : H) (at_ : Array Nat) (args : V) : O Nx := match args with
  | .cons s (.cons x .nil) => (match (at_[0]?).bind P.underlying, (at_[1]?).bind P.underlying, x with
          | some (.slice e), some .string, .str l => bif Nat.beq (P.cellsOf e) 1 then ovalh (appendV P h e s (lenL l) (cellsOfBytes l)) else .no 108
          | some (.slice e), some (.slice _), .nils => ovalh (appendV P h e s 0 .nil)
          | some (.slice e), some (.slice _), .sle => ovalh (appendV P h e s 0 .nil)
          | some (.slice e), some (.slice _), .sl b o n _ => (rowOf h b o (n * P.cellsOf e)).bnd fun l => ovalh (appendV P h e s n l)
          | some (.slice e), some (.slice _), .slu b o n _ => (rowOf h b o (n * P.cellsOf e)).bnd fun l => ovalh (appendV P h e s n l)
          | _, _, _ => .no 108)
  | _ => .no 115
def clearRow (P : Program) (h : H) (e : Nat) (b : K) (o n : Nat) : O Nx := bif Nat.beq n 0 then .ok (.val (.tup .nil) h) else bif itemOk P e then (zero P e).bnd fun z => match h.get b with
  | some (.cells ro fz c m ty) => bif ro then .no 180 else bif fz then .no 181 else bif Nat.ble (o + n * P.cellsOf e) m then .ok (.val (.tup .nil) (h.set b (.cells ro fz (putCells c (rep z.cells n) o) m ty))) else .no 182
  | _ => .no 183 else .no 184
def bi_clear (P : Program) (h : H) (at_ : Array Nat) (args : V) : O Nx := match args with
  | .cons x .nil => (match (at_[0]?).bind P.underlying, x with
          | some (.slice _), .nils => .ok (.val (.tup .nil) h)
          | some (.slice _), .sle => .ok (.val (.tup .nil) h)
          | some (.slice e), .sl b o n _ => clearRow P h e b o n
          | some (.slice e), .slu b o n _ => clearRow P h e b o n
          | some _, .map b => (match h.get b with | some (.map _ c) => .ok (.val (.tup .nil) (h.set b (.map [] c))) | _ => .no 110)
          | some _, .nilmap => .ok (.val (.tup .nil) h)
          | _, _ => .no 111)
  | _ => .no 115
def bi_max (P : Program) (h : H) (at_ : Array Nat) (args : V) : O Nx := match args with
  | .cons (.int k x) (.cons (.int _ y) .nil) => .ok (.val (.int k (bif leI y x then x else y)) h)
  | _ => .no 115
def bi_min (P : Program) (h : H) (at_ : Array Nat) (args : V) : O Nx := match args with
  | .cons (.int k x) (.cons (.int _ y) .nil) => .ok (.val (.int k (bif leI x y then x else y)) h)
  | _ => .no 115
def bi_recover (P : Program) (h : H) (at_ : Array Nat) (args : V) : O Nx := match args with
  | _ => .ok (.recover h)
def bi_unsafeSliceData (P : Program) (h : H) (at_ : Array Nat) (args : V) : O Nx := match args with
  | .cons x .nil => (match x with | .nils => .ok (.val .nilp h) | .sl b o _ c => bif Nat.beq c 0 then .no 112 else .ok (.val (.ptr b o) h) | .slu b o n _ => bif Nat.beq n 0 then .no 112 else .ok (.val (.ptr b o) h) | _ => .no 112)
  | _ => .no 115
def bi_unsafeString (P : Program) (h : H) (at_ : Array Nat) (args : V) : O Nx := match args with
  | .cons p (.cons (.int _ (.ofNat n)) .nil) => (match (at_[0]?).bind P.underlying, p with
    | some (.pointer _), .nilp => bif Nat.beq n 0 then .ok (.val (.str []) h) else .no 113
    | some (.pointer u), .ptr b o => bif Nat.beq n 0 then .ok (.val (.str []) h) else (match h.get b with
      | some (.cells ro _ c m ty) => bif ro then .no 113 else bif Nat.beq ty u then bif Nat.beq (P.cellsOf u) 1 then bif Nat.ble n 1000000000 then (rowOf h b o n).bnd fun l => (bytesOfCells l).bnd fun s => .ok (.val (.str s) (h.set b (.cells ro true c m ty))) else .no 113 else .no 113 else .no 113
      | _ => .no 113)
    | _, _ => .no 114)
  | _ => .no 115
def opBuiltin (P : Program) (h : H) (at_ : Array Nat) (b : Builtin) (args : V) : O Nx := match b with
  | .len => bi_len P h at_ args
  | .cap => bi_cap P h at_ args
  | .append => bif Nat.beq at_.size 2 then bi_append P h at_ args else .no 115
  | .clear => bi_clear P h at_ args
  | .max => bi_max P h at_ args
  | .min => bi_min P h at_ args
  | .recover => bi_recover P h at_ args
  | .unsafeSliceData => bi_unsafeSliceData P h at_ args
  | .unsafeString => bi_unsafeString P h at_ args
  | _ => .no 115
def opCall (P : Program) (η : Env) (h : H) (c : Call) : O Nx := (opds η c.args.toList).bnd fun args => match c.callee with
      | .value f => (opd η f).bnd fun f => (match f with | .fn f first cap => callF P h f ((first.app args).app cap) | .yld b => .ok (.round b args h) | _ => .no 103)
      | .invoke r name => (opd η r).bnd fun r => invokeV P h r name args
      | .builtin b => opBuiltin P h c.argTypes b args
def evOp (P : Program) (o : Oper) (η : Env) (h : H) : O Nx := match o.op with
  | .move x => opMove P η h x
  | .assign x => opMove P η h x
  | .pick c a b => opPick P η h c a b
  | .alloc t => opAlloc P η h t
  | .box t x => opBox P η h t x
  | .build t parts => opBuild P η h t parts
  | .buildSlice t len parts => opBuildslice P η h t len parts
  | .load t a => opLoad P η h t a
  | .store t a x => opStore P η h t a x
  | .nilCheck x => opNilcheck P η h x
  | .binOp op xt x y _ => opBinop P η h op xt x y
  | .unOp op _ x => opUnop P η h op x
  | .convert s d x => opConvert P η h s d x
  | .makeInterface t x => opMakeinterface P η h t x
  | .makeFunc fn first cap => opMakefunc P η h fn first cap
  | .makeMap _ none => opMakemap0 P η h 
  | .makeMap t (some x) => opMakemap P η h t x
  | .makeSlice t l c => opMakeslice P η h t l c
  | .slice t x lo hi mx => opSlice P η h t x lo hi mx
  | .fieldAddr s x f => opFieldaddr P η h s x f
  | .field t x f => opField P η h t x f
  | .indexAddr t x ix => opIndexaddr P η h t x ix
  | .index t x ix => opIndex P η h t x ix
  | .lookup t x ix ok => opLookup P η h t x ix ok
  | .mapUpdate t m k x => opMapupdate P η h t m k x
  | .insert t m k x => opMapupdate P η h t m k x
  | .typeAssert x _ want ok => opTypeassert P η h x want ok
  | .range t x => opRange P η h t x
  | .next x b => opNext P η h x b
  | .extract t ix => opExtract P η h t ix
  | .panic x => opPanic P η h x
  | .defer c => opDefer P η h c
  | .call c => opCall P η h c
  | _ => .no 116
/-- What a piece of code comes to. -/
inductive R where
  | nor (η : Env) (ds : V) (h : H)
  | ext (id : Nat) (η : Env) (ds : V) (h : H)
  | ret (η : Env) (ds : V) (h : H)
  | pan (v : V) (η : Env) (ds : V) (h : H)
def initEnv (l : V) (i : Nat) (η : Env) : Env := V.rec (motive := fun _ => Nat → Env → Env) (fun _ => fun _ η => η) (fun _ _ => fun _ η => η) (fun _ => fun _ η => η) (fun _ η => η) (fun _ _ => fun _ η => η) (fun _ η => η) (fun _ _ _ _ => fun _ η => η) (fun _ _ _ _ => fun _ η => η) (fun _ η => η) (fun _ => fun _ η => η) (fun _ η => η) (fun _ _ _ _ _ => fun _ η => η) (fun _ => fun _ η => η) (fun _ η => η) (fun _ η => η) (fun _ _ _ => fun _ η => η) (fun _ _ => fun _ η => η) (fun _ _ => fun _ η => η) (fun _ η => η) (fun h _ _ ih i η => ih (Nat.succ i) (η.set (key i) h)) l i η
def putD (η : Env) (d : Option Nat) (v : V) : Env := match d with | some d => η.set (key d) v | none => η
def delD (η : Env) (d : Option Nat) : Env := putD η d (.tup .nil)
def resS (P : Program) (h : H) (η : Env) (r : ResultVar) (ih : O V) : O V := match r with
  | .tmp t => (O.of 120 (η.get (key t))).bnd fun v => ih.bnd fun l => .ok (.cons v l)
  | .cell a t => match η.get (key a) with
    | some (.ptr b o) => (loadV P h t b o).bnd fun v => ih.bnd fun l => .ok (.cons v l)
    | _ => .no 121
def resV (P : Program) (h : H) (η : Env) (l : List ResultVar) : O V := List.rec (.ok .nil) (fun r _ ih => resS P h η r ih) l
/-- How a call ends: a value, or a panic; and whether it recovered its caller's. -/
inductive E where
  | ret (v : V) (h : H) (rec : Bool)
  | pan (v : V) (h : H) (rec : Bool)
structure Call where
  c : Option (Option V) → Nat → V → H → O E
  r : K → V → H → O E
abbrev RegT := Env → V → H → Bool → O (R × Bool)
def wantV (want : Bool) (x : Option V) : O Bool := match x with
  | some (.bool b) => .ok (bif b then want else (bif want then false else true))
  | some (.tup .nil) => .ok false
  | _ => .no 118
def wantedB (all : List Oper) (η : Env) (g : Option (Nat × Bool)) : O Bool := match g with
  | none => .ok true
  | some (j, want) => (match (all[j]?).bind (·.dst) with
    | some d => wantV want (η.get (key d))
    | none => .ok false)
def afterCall (dst : Option Nat) (ih : RegT) (η : Env) (ds : V) (q : Bool) (e : E) : O (R × Bool) := match e with
  | .ret v h _ => ih (putD η dst v) ds h q
  | .pan v h _ => .ok (.pan v η ds h, q)
def afterOp (call : Call) (pn : Option (Option V)) (dst : Option Nat) (ih : RegT) (η : Env) (ds : V) (q : Bool) (nx : Nx) : O (R × Bool) := match nx with
  | .val v h => ih (putD η dst v) ds h q
  | .skip h => ih (delD η dst) ds h q
  | .enter f args h => (call.c none f args h).bnd fun e => afterCall dst ih η ds q e
  | .round b args h => (call.r b args h).bnd fun e => afterCall dst ih η ds q e
  | .defer f args h => ih (delD η dst) (.cons (.fn f args .nil) ds) h q
  | .recover h => (match pn with
    | none => .no 117
    | some none => ih (putD η dst .nili) ds h q
    | some (some v) => bif q then ih (putD η dst .nili) ds h true else ih (putD η dst v) ds h true)
  | .pan v h => .ok (.pan v η ds h, q)
def regS (P : Program) (all : List Oper) (call : Call) (pn : Option (Option V)) (o : Oper) (ih : RegT) (η : Env) (ds : V) (h : H) (q : Bool) : O (R × Bool) :=
  (wantedB all η o.guard).bnd fun y => bif y then (evOp P o η h).bnd fun nx => afterOp call pn o.dst ih η ds q nx else ih (delD η o.dst) ds h q
def reg (P : Program) (all : List Oper) (call : Call) (pn : Option (Option V)) (l : List Oper) : RegT :=
  List.rec (motive := fun _ => RegT) (fun η ds h q => .ok (.nor η ds h, q)) (fun o _ ih η ds h q => regS P all call pn o ih η ds h q) l
abbrev EvT := Code → Env → V → H → Bool → O (R × Bool)
def evSeq (ih : EvT) (b : Code) (x : R × Bool) : O (R × Bool) := match x.1 with
  | .nor η ds h => ih b η ds h x.2
  | _ => .ok x
def evCond (ih : EvT) (a b : Code) (η : Env) (ds : V) (h : H) (q : Bool) (v : V) : O (R × Bool) := match v with
  | .bool t => ih (bif t then a else b) η ds h q
  | _ => .no 131
def evBlk (id : Nat) (x : R × Bool) : O (R × Bool) := match x.1 with
  | .ext j η ds h => bif Nat.beq j id then .ok (.nor η ds h, x.2) else .ok x
  | _ => .ok x
-- regions whose order is drawn
def boolB (a b : Bool) : Bool := bif a then b else (bif b then false else true)
def eqLS (a : Nat) (ih : List Nat → Bool) (l : List Nat) : Bool := match l with | [] => false | b :: s => bif Nat.beq a b then ih s else false
def eqL (l : List Nat) : List Nat → Bool := List.rec (motive := fun _ => List Nat → Bool) isNilL (fun a _ ih m => eqLS a ih m) l
def vq_bool (b : Bool) (u : V) : Bool := match u with | .bool c => boolB b c | _ => false
def vq_int (k : IntKind) (n : Int) (u : V) : Bool := match u with | .int k' m => bif kindB k k' then eqI n m else false | _ => false
def vq_str (s : List Nat) (u : V) : Bool := match u with | .str t => eqL s t | _ => false
def vq_nilp (u : V) : Bool := match u with | .nilp => true | _ => false
def vq_ptr (b : K) (o : Nat) (u : V) : Bool := match u with | .ptr c p => bif K.beq b c then Nat.beq o p else false | _ => false
def vq_nils (u : V) : Bool := match u with | .nils => true | _ => false
def vq_sl (b : K) (o n c : Nat) (u : V) : Bool := match u with | .sl b' o' n' c' => bif K.beq b b' then bif Nat.beq o o' then bif Nat.beq n n' then Nat.beq c c' else false else false else false | _ => false
def vq_slu (b : K) (o n c : Nat) (u : V) : Bool := match u with | .slu b' o' n' c' => bif K.beq b b' then bif Nat.beq o o' then bif Nat.beq n n' then Nat.beq c c' else false else false else false | _ => false
def vq_nilmap (u : V) : Bool := match u with | .nilmap => true | _ => false
def vq_map (b : K) (u : V) : Bool := match u with | .map c => K.beq b c | _ => false
def vq_nilfn (u : V) : Bool := match u with | .nilfn => true | _ => false
def vq_fn (f : Nat) (x y : V → Bool) (u : V) : Bool := match u with | .fn g a b => bif Nat.beq f g then bif x a then y b else false else false | _ => false
def vq_yld (b : K) (u : V) : Bool := match u with | .yld c => K.beq b c | _ => false
def vq_sle (u : V) : Bool := match u with | .sle => true | _ => false
def vq_nili (u : V) : Bool := match u with | .nili => true | _ => false
def vq_iface (t : Nat) (x : V → Bool) (u : V) : Bool := match u with | .iface t' a => bif Nat.beq t t' then x a else false | _ => false
def vq_agg (x : V → Bool) (u : V) : Bool := match u with | .agg a => x a | _ => false
def vq_tup (x : V → Bool) (u : V) : Bool := match u with | .tup a => x a | _ => false
def vq_nil (u : V) : Bool := match u with | .nil => true | _ => false
def vq_cons (x y : V → Bool) (u : V) : Bool := match u with | .cons a b => bif x a then y b else false | _ => false
def V.beq (v : V) : V → Bool := V.rec (motive := fun _ => V → Bool) (fun b u => vq_bool b u) (fun k n u => vq_int k n u) (fun s u => vq_str s u) (fun u => vq_nilp u) (fun b o u => vq_ptr b o u) (fun u => vq_nils u) (fun b o n c u => vq_sl b o n c u) (fun b o n c u => vq_slu b o n c u) (fun u => vq_nilmap u) (fun b u => vq_map b u) (fun u => vq_nilfn u) (fun f _ _ x y u => vq_fn f x y u) (fun b u => vq_yld b u) (fun u => vq_sle u) (fun u => vq_nili u) (fun t _ x u => vq_iface t x u) (fun _ x u => vq_agg x u) (fun _ x u => vq_tup x u) (fun u => vq_nil u) (fun _ _ x y u => vq_cons x y u) v
def bit (m k : Nat) : Bool := Nat.beq (Nat.land (Nat.shiftRight m k) 1) 1
def alwG (g : Ground) : Bool := match g with | .textOnly _ => false | .gcOnly _ => false | _ => true
def gcG (g : Ground) : Bool := match g with | .gcOnly _ => true | _ => false
def txG (g : Ground) : Bool := match g with | .textOnly _ => true | _ => false
def getN (l : List Nat) (k : Nat) : Nat := match nthL l k with | some x => x | none => 0
def mskS (acc : List Nat) (e : Edge) (ih : Nat) : Nat := bif alwG e.ground then Nat.lor (Nat.lor (Nat.pow 2 e.on) (getN acc e.on)) ih else ih
/-- What an operation waits for. -/
def mskE (acc : List Nat) (es : List Edge) : Nat := List.rec 0 (fun e _ ih => mskS acc e ih) es
def msks (l : List Oper) : List Nat → List Nat := List.rec (motive := fun _ => List Nat → List Nat) (fun acc => acc) (fun o _ ih acc => ih (appL acc (mskE acc o.after.toList :: []))) l
def lightB (o : Op) : Bool := match o with
  | .move _ => true | .assign _ => true | .pick _ _ _ => true | .load _ _ => true | .nilCheck _ => true | .binOp _ _ _ _ _ => true | .unOp _ _ _ => true | .makeInterface _ _ => true
  | .makeFunc _ _ _ => true | .slice _ _ _ _ _ => true | .fieldAddr _ _ _ => true | .field _ _ _ => true | .indexAddr _ _ _ => true | .index _ _ _ => true | .extract _ _ => true | .build _ _ => true
  | .call c => (match c.callee with | .builtin .len => true | .builtin .cap => true | .builtin .max => true | .builtin .min => true | _ => false)
  | _ => false
def isAl (o : Op) : Bool := match o with | .alloc _ => true | .buildSlice _ _ _ => true | .makeSlice _ _ _ => true | .makeMap _ none => true | _ => false
def isAlG (o : Oper) : Bool := match o.guard with | none => isAl o.op | some _ => false
structure Rw where
  i : Nat
  o : Oper
  b : Nat
  hv : Bool
def rws (ms : List Nat) (l : List Oper) : Nat → List Rw := List.rec (motive := fun _ => Nat → List Rw) (fun _ => []) (fun o _ ih i => ⟨i, o, getN ms i, bif lightB o.op then false else true⟩ :: ih (Nat.succ i)) l
def dropR (fa : Rw) (l : List Rw) : List Rw := List.rec [] (fun r _ ih => bif Nat.beq r.i fa.i then ih else r :: ih) l
def lateR (fa : Rw) (l : List Rw) : List Rw := List.rec (fa :: []) (fun r rest ih => bif Nat.beq r.i fa.i then ih else bif bit r.b fa.i then fa :: r :: dropR fa rest else r :: ih) l
def isFa (fa : Nat) (r : Rw) : Bool := bit fa r.i
/-- The places that are made: they may be made ahead of their turn. -/
def faMask (l : List Rw) : Nat := List.rec 0 (fun r _ ih => bif isAlG r.o then Nat.lor (Nat.pow 2 r.i) ih else ih) l
def behindS (b : Nat) (p : Nat × Nat) (ih : Bool) : Bool := bif bit b p.1 then (bif Nat.beq (Nat.land p.2 b) p.2 then ih else false) else ih
def behindFa (fs : List (Nat × Nat)) (b : Nat) : Bool := List.rec true (fun p _ ih => behindS b p ih) fs
/-- Those that change the heap are a chain. hm: the ones ahead. fs: the places, each with those ahead of it. -/
def chainR (fa : Nat) (l : List Rw) : Nat → List (Nat × Nat) → Bool := List.rec (motive := fun _ => Nat → List (Nat × Nat) → Bool) (fun _ _ => true) (fun r _ ih hm fs =>
  bif behindFa fs r.b then (bif r.hv then bif isFa fa r then ih (Nat.lor hm (Nat.pow 2 r.i)) ((r.i, hm) :: fs) else bif Nat.beq (Nat.land hm r.b) hm then ih (Nat.lor hm (Nat.pow 2 r.i)) fs else false else ih hm fs) else false) l
/-- A place that is made late. -/
def freeS (all : List Rw) (l : List Rw) : Option Rw := List.rec none (fun a _ ih => bif isAlG a.o then bif chainR (faMask all) (lateR a all) 0 [] then some a else ih else ih) l
def freeR (all : List Rw) (l : List Rw) : Option Rw := bif chainR (faMask all) all 0 [] then none else freeS all l
def ordR (l : List Rw) : List Rw := match freeR l l with | some fa => lateR fa l | none => l
/-- The order keeps what is asked of it, and has each of them once. -/
def topoR (n : Nat) (l : List Rw) : Nat → Bool := List.rec (motive := fun _ => Nat → Bool) (fun d => Nat.beq d (Nat.sub (Nat.pow 2 n) 1)) (fun r _ ih d => bif bit d r.i then false else bif Nat.beq (Nat.land r.b d) r.b then ih (Nat.lor d (Nat.pow 2 r.i)) else false) l
def tmpU (x : Operand) (ih : List Nat) : List Nat := match x with | .tmp t => t :: ih | _ => ih
def tmpsU (l : List Operand) : List Nat := List.rec [] (fun x _ ih => tmpU x ih) l
def guardU (all : List Oper) (g : Option (Nat × Bool)) (l : List Nat) : List Nat := match g with
  | none => l
  | some (j, _) => (match (all[j]?).bind (·.dst) with | some d => d :: l | none => l)
def usesR (all : List Oper) (r : Rw) : List Nat := guardU all r.o.guard (tmpsU r.o.op.operands.toList)
def hasN (t : Nat) (l : List Nat) : Bool := List.rec false (fun u _ ih => bif Nat.beq t u then true else ih) l
def dstIn (r : Rw) (l : List Nat) : Bool := match r.o.dst with | some d => hasN d l | none => false
def sameD (a b : Rw) : Bool := match a.o.dst, b.o.dst with | some d, some e => Nat.beq d e | _, _ => false
/-- a and b: what a writes b reads behind it or ahead of it, in each order alike. -/
def pairOk (all : List Oper) (a b : Rw) : Bool := bif Nat.beq a.i b.i then true else bif sameD a b then false else bif dstIn a (usesR all b) then (bif bit a.b b.i then true else bit b.b a.i) else true
def pairsA (all : List Oper) (a : Rw) (l : List Rw) : Bool := List.rec true (fun b _ ih => bif pairOk all a b then ih else false) l
def pairsR (all : List Oper) (rs : List Rw) (l : List Rw) : Bool := List.rec true (fun a _ ih => bif pairsA all a rs then ih else false) l
def edgeOk (i : Nat) (e : Edge) : Bool := bif gcG e.ground then true else Nat.blt e.on i
def edgesOk (i : Nat) (l : List Edge) : Bool := List.rec true (fun e _ ih => bif edgeOk i e then ih else false) l
def textOk (l : List Rw) : Bool := List.rec true (fun r _ ih => bif edgesOk r.i r.o.after.toList then ih else false) l
def gcEdges (d : Nat) (l : List Edge) : Bool := List.rec true (fun e _ ih => bif txG e.ground then ih else bif bit d e.on then ih else false) l
def gcAt (all : List Oper) (d i : Nat) : Bool := match all[i]? with | some o => gcEdges d o.after.toList | none => false
def gcTopo (all : List Oper) (n : Nat) (l : List Nat) : Nat → Bool := List.rec (motive := fun _ => Nat → Bool) (fun d => Nat.beq d (Nat.sub (Nat.pow 2 n) 1)) (fun i _ ih d => bif bit d i then false else bif gcAt all d i then ih (Nat.lor d (Nat.pow 2 i)) else false) l
def gcOk (ops : Array Oper) : Bool := bif Region.departs ops then gcTopo ops.toList ops.size (Region.linearise .gc ops 0) 0 else true
def ordOf (ops : Array Oper) : List Rw := ordR (rws (msks ops.toList []) ops.toList 0)
def faOf (ops : Array Oper) : Nat := faMask (rws (msks ops.toList []) ops.toList 0)
def regOkS (ops : Array Oper) : Bool := bif topoR ops.size (ordOf ops) 0 then bif pairsR ops.toList (ordOf ops) (ordOf ops) then bif chainR (faOf ops) (ordOf ops) 0 [] then bif textOk (ordOf ops) then gcOk ops else false else false else false else false
structure En where
  r : Rw
  e : Env
  y : Bool
  v : V
  hb : H
  ha : H
def evL (P : Program) (o : Oper) (η : Env) (h : H) : O V := (evOp P o η h).bnd fun nx => match nx with | .val v _ => .ok v | _ => .no 150
abbrev RunT := Env → H → O (List En × Option (V × H))
def contD (r : Rw) (η : Env) (y : Bool) (h : H) (ih : RunT) (v : V) (h' : H) : O (List En × Option (V × H)) := (ih (putD η r.o.dst v) h').bnd fun p => .ok (⟨r, η, y, v, h, h'⟩ :: p.1, p.2)
def postS (P : Program) (all : List Oper) (r : Rw) (ih : Env → O (List En)) (η : Env) (h : H) (y : Bool) : O (List En) :=
  (bif y then evL P r.o η h else .ok (.tup .nil)).bnd fun v => (ih (putD η r.o.dst v)).bnd fun es => .ok (⟨r, η, y, v, h, h⟩ :: es)
def deadS (r : Rw) (ih : Env → O (List En)) (η : Env) (h : H) : O (List En) := (ih (putD η r.o.dst (.tup .nil))).bnd fun es => .ok (⟨r, η, false, .tup .nil, h, h⟩ :: es)
/-- What may be done ahead of an operation that doesn't come back. -/
def postD (P : Program) (all : List Oper) (x : Nat) (h : H) (l : List Rw) : Env → O (List En) := List.rec (motive := fun _ => Env → O (List En)) (fun _ => .ok []) (fun r _ ih η => bif bit r.b x then deadS r ih η h else bif r.hv then .no 152 else (wantedB all η r.o.guard).bnd fun y => postS P all r ih η h y) l
def panD (P : Program) (all : List Oper) (r : Rw) (η : Env) (h : H) (rest : List Rw) (v : V) (h' : H) : O (List En × Option (V × H)) := (postD P all r.i h rest (putD η r.o.dst (.tup .nil))).bnd fun es => .ok (⟨r, η, true, .tup .nil, h, h⟩ :: es, some (v, h'))
def callD (P : Program) (all : List Oper) (r : Rw) (η : Env) (h : H) (rest : List Rw) (ih : RunT) (e : E) : O (List En × Option (V × H)) := match e with
  | .ret v h' _ => contD r η true h ih v h'
  | .pan v h' _ => panD P all r η h rest v h'
def heavyD (P : Program) (all : List Oper) (call : Call) (r : Rw) (η : Env) (h : H) (rest : List Rw) (ih : RunT) (nx : Nx) : O (List En × Option (V × H)) := match nx with
  | .val v h' => contD r η true h ih v h'
  | .skip h' => contD r η true h ih (.tup .nil) h'
  | .enter f args h1 => (call.c none f args h1).bnd fun e => callD P all r η h rest ih e
  | .round b args h1 => (call.r b args h1).bnd fun e => callD P all r η h rest ih e
  | .pan v h' => panD P all r η h rest v h'
  | _ => .no 151
def runS (P : Program) (all : List Oper) (call : Call) (r : Rw) (rest : List Rw) (ih : RunT) (η : Env) (h : H) (y : Bool) : O (List En × Option (V × H)) := bif y then
    bif r.hv then (evOp P r.o η h).bnd fun nx => heavyD P all call r η h rest ih nx
    else (evL P r.o η h).bnd fun v => contD r η true h ih v h
  else contD r η false h ih (.tup .nil) h
def runD (P : Program) (all : List Oper) (call : Call) (l : List Rw) : RunT := List.rec (motive := fun _ => RunT) (fun _ _ => .ok ([], none)) (fun r rest ih η h => (wantedB all η r.o.guard).bnd fun y => runS P all call r rest ih η h y) l
def sameAt (P : Program) (k : En) (h : H) : Bool := match evL P k.r.o k.e h with | .ok v => V.beq v k.v | .no _ => false
def lvlS (P : Program) (k x : En) (ih : Bool → Bool) (own : Bool) : Bool := bif x.r.hv then (bif (bif own then true else bif bit k.r.b x.r.i then true else sameAt P k x.hb) then (bif bit x.r.b k.r.i then true else ih false) else false) else ih (bif Nat.beq x.r.i k.r.i then true else own)
def lvls (P : Program) (k : En) (hf : H) (es : List En) : Bool → Bool := List.rec (motive := fun _ => Bool → Bool) (fun own => bif own then true else sameAt P k hf) (fun x _ ih own => lvlS P k x ih own) es
def lvlK (P : Program) (hf : H) (all : List En) (k : En) : Bool := bif k.r.hv then true else bif k.y then lvls P k hf all false else true
def lvlA (P : Program) (hf : H) (all : List En) (l : List En) : Bool := List.rec true (fun k _ ih => bif lvlK P hf all k then ih else false) l
def hEnd (es : List En) : H → H := List.rec (motive := fun _ => H → H) (fun h => h) (fun x _ ih _ => ih x.ha) es
def eEnd (es : List En) : Env → Env := List.rec (motive := fun _ => Env → Env) (fun η => η) (fun x _ ih η => ih (putD η x.r.o.dst x.v)) es
def delT (η : Env) (d : Option Nat) : Env := match d with | some d => η.del (key d) | none => η
def delAll (l : List Oper) : Env → Env := List.rec (motive := fun _ => Env → Env) (fun η => η) (fun o _ ih η => ih (delT η o.dst)) l
def finD (ops : Array Oper) (η : Env) (ds : V) (q : Bool) (h : H) (p : List En × Option (V × H)) : O (R × Bool) := match p.2 with
  | none => .ok (.nor (eEnd p.1 η) ds (hEnd p.1 h), q)
  | some (v, h') => .ok (.pan v (delAll ops.toList η) ds h', q)
/-- A region whose order is drawn. -/
def regD (P : Program) (call : Call) (ops : Array Oper) (η : Env) (ds : V) (h : H) (q : Bool) : O (R × Bool) := bif regOkS ops then
    (runD P ops.toList call (ordOf ops) η h).bnd fun p => bif lvlA P (hEnd p.1 h) p.1 p.1 then finD ops η ds q h p else .no 153
  else .no 154
-- a range over a function
def rfJump (pd : Option Code) (η : Env) (ds : V) (h : H) (q : Bool) : O (R × Bool) := match pd with
  | none => .ok (.nor η ds h, q)
  | some c => match c with
    | .ret => .ok (.ret η ds h, q)
    | .exit id => .ok (.ext id η ds h, q)
    | _ => .no 163
def rfEnd (b1 b2 : K) (η : Env) (ds : V) (q : Bool) (h : H) : O (R × Bool) := match h.get b2 with
  | some (.loop ε ps a b st pd) => bif Nat.beq st 1 then .no 161 else rfJump pd η (.cons (.yld b1) ds) (h.set b2 (.loop ε ps a b 3 pd)) q
  | _ => .no 162
def rfRet (b1 b2 : K) (η : Env) (ds : V) (q : Bool) (e : E) : O (R × Bool) := match e with
  | .ret _ h _ => rfEnd b1 b2 η ds q h
  | .pan v h _ => .ok (.pan v η (.cons (.yld b1) ds) h, q)
def rfCall (call : Call) (b1 b2 : K) (η : Env) (ds : V) (q : Bool) (nx : Nx) : O (R × Bool) := match nx with
  | .enter g args h => (call.c none g args h).bnd fun e => rfRet b1 b2 η ds q e
  | _ => .no 164
def rfS (P : Program) (call : Call) (ps : Array Nat) (a b : Code) (η : Env) (ds : V) (h : H) (q : Bool) (f : V) : O (R × Bool) := match f with
  | .fn g first cap => (callF P ((h.new .dfr).new (.loop η ps a b 0 none)) g ((first.app (.cons (.yld (h.new .dfr).next) .nil)).app cap)).bnd fun nx => rfCall call h.next (h.new .dfr).next η ds q nx
  | _ => .no 165
/-- Code, at a fuel. pn: what recover answers here, if it does; q: whether it has. -/
def evS (P : Program) (call : Call) (pn : Option (Option V)) (ih : EvT) (c : Code) (η : Env) (ds : V) (h : H) (q : Bool) : O (R × Bool) := match c with
    | .skip => .ok (.nor η ds h, q)
    | .label _ => .ok (.nor η ds h, q)
    | .ret => .ok (.ret η ds h, q)
    | .exit id => .ok (.ext id η ds h, q)
    | .seq a b => (ih a η ds h q).bnd (evSeq ih b)
    | .cond x a b => (opd η x).bnd (evCond ih a b η ds h q)
    | .block id b => (ih b η ds h q).bnd (evBlk id)
    | .scope b => ih b η ds h q
    | .loop b => (ih b η ds h q).bnd (evSeq ih (.loop b))
    | .rangeFunc f ps a b => (opd η f).bnd fun f => rfS P call ps a b η ds h q f
    | .region _ ops d => bif d then regD P call ops η ds h q else reg P ops.toList call pn ops.toList η ds h q
    | _ => .no 132
def ev (P : Program) (call : Call) (pn : Option (Option V)) (n : Nat) : EvT := Nat.rec (motive := fun _ => EvT) (fun _ _ _ _ _ => .no 130) (fun _ ih c η ds h q => evS P call pn ih c η ds h q) n
def leaveD (call : Call) (ih : Option V → H → O E) (d : V) (pn : Option V) (h : H) : O E := match d with
  | .yld b => (match h.get b with | some .dfr => ih pn (h.del b) | _ => .no 138)
  | .fn f args .nil => (call.c (some pn) f args h).bnd fun e => (match e with
      | .ret _ h r => ih (bif r then none else pn) h
      | .pan v h _ => ih (some v) h)
  | _ => .no 137
def oneV (l : V) : V := match l with | .cons x .nil => x | l => .tup l
def leave0 (P : Program) (fn : Func) (η : Env) (q : Bool) (pn : Option V) (h : H) : O E := match pn with
  | none => (resV P h η fn.results.toList).bnd fun l => .ok (.ret (oneV l) h q)
  | some v => .ok (.pan v h q)
def leave (P : Program) (call : Call) (fn : Func) (η : Env) (q : Bool) (ds : V) : Option V → H → O E := V.rec (motive := fun _ => Option V → H → O E) (fun _ => leave0 P fn η q) (fun _ _ => leave0 P fn η q) (fun _ => leave0 P fn η q) (leave0 P fn η q) (fun _ _ => leave0 P fn η q) (leave0 P fn η q) (fun _ _ _ _ => leave0 P fn η q) (fun _ _ _ _ => leave0 P fn η q) (leave0 P fn η q) (fun _ => leave0 P fn η q) (leave0 P fn η q) (fun _ _ _ _ _ => leave0 P fn η q) (fun _ => leave0 P fn η q) (leave0 P fn η q) (leave0 P fn η q) (fun _ _ _ => leave0 P fn η q) (fun _ _ => leave0 P fn η q) (fun _ _ => leave0 P fn η q) (leave0 P fn η q) (fun d _ _ ih => leaveD call ih d) ds
def recQ (pn : Option V) (q : Bool) : Bool := match pn with | some _ => q | none => false
def isNilV (v : V) : Bool := match v with | .nil => true | _ => false
def afterBody (P : Program) (call : Call) (fn : Func) (pn : Option (Option V)) (x : R × Bool) : O E := match pn with
  | none => (match x.1 with
    | .nor η ds h => leave P call fn η x.2 ds none h
    | .ret η ds h => leave P call fn η x.2 ds none h
    | .pan v η ds h => leave P call fn η x.2 ds (some v) h
    | .ext _ _ _ _ => .no 135)
  | some pn' => (match x.1 with
    | .nor η ds h => bif isNilV ds then leave0 P fn η (recQ pn' x.2) none h else .no 139
    | .ret η ds h => bif isNilV ds then leave0 P fn η (recQ pn' x.2) none h else .no 139
    | .pan v η ds h => bif isNilV ds then leave0 P fn η (recQ pn' x.2) (some v) h else .no 139
    | .ext _ _ _ _ => .no 135)
def setPsS (t : Nat) (ih : V → Env → O Env) (l : V) (η : Env) : O Env := match l with | .cons v r => ih r (η.set (key t) v) | _ => .no 175
def setPs (ps : List Nat) : V → Env → O Env := List.rec (motive := fun _ => V → Env → O Env) (fun l η => bif isNilV l then .ok η else .no 176) (fun t _ ih l η => setPsS t ih l η) ps
def rdSet (b : K) (h : H) (jump : Option Code) : O E := match h.get b with
  | some (.loop η ps as bd _ _) => .ok (.ret (.bool jump.isNone) (h.set b (.loop η ps as bd (bif jump.isNone then 0 else 2) jump)) false)
  | _ => .no 174
def rdEnd (b : K) (x : R × Bool) : O E := match x.1 with
  | .nor _ _ h => rdSet b h none
  | .ret _ _ h => rdSet b h (some .ret)
  | .ext id _ _ h => rdSet b h (some (.exit id))
  | .pan _ _ _ _ => .no 173
def rdBody (P : Program) (call : Call) (b : K) (bd : Code) (x : R × Bool) : O E := match x.1 with
  | .nor η ds h => bif isNilV ds then (match h.get b with
    | some (.loop ε ps as bd2 st pd) => bif Nat.beq st 0 then (ev P call none 10000000 bd η .nil (h.set b (.loop ε ps as bd2 1 pd)) false).bnd fun x => rdEnd b x else .no 177
    | _ => .no 178) else .no 179
  | _ => .no 172
/-- A round: what is ranged over calls it. -/
def roundS (P : Program) (call : Call) (b : K) (args : V) (h : H) : O E := match h.get b with
  | some (.loop η ps as bd st _) => bif Nat.beq st 0 then (setPs ps.toList args η).bnd fun η1 => (ev P call none 10000000 as η1 .nil h false).bnd fun x => rdBody P call b bd x else .no 170
  | _ => .no 171
def callS (P : Program) (ih : Call) (pn : Option (Option V)) (f : Nat) (args : V) (h : H) : O E := match P.funcs[f]? with
    | none => .no 133
    | some fn => match fn.body with
      | none => .no 134
      | some b => (ev P ih pn 10000000 b (initEnv args 0 .e) .nil h false).bnd (afterBody P ih fn pn)
def callT (P : Program) (ih : Call) : Call := ⟨fun pn f args h => callS P ih pn f args h, fun b args h => roundS P ih b args h⟩
def call0 : Call := ⟨fun _ _ _ _ => .no 136, fun _ _ _ => .no 136⟩
def call (P : Program) (n : Nat) : Call := Nat.rec (motive := fun _ => Call) call0 (fun _ ih => callT P ih) n
/-- Calls of which some are known. -/
def callOS (P : Program) (orc : Nat → V → Bool) (ih : Call) (pn : Option (Option V)) (f : Nat) (args : V) (h : H) : O E := match pn with
  | none => bif orc f args then .ok (.ret (.bool true) h false) else callS P ih none f args h
  | some p => callS P ih (some p) f args h
def callOT (P : Program) (orc : Nat → V → Bool) (ih : Call) : Call := ⟨fun pn f args h => callOS P orc ih pn f args h, fun b args h => roundS P ih b args h⟩
def callO (P : Program) (orc : Nat → V → Bool) (n : Nat) : Call := Nat.rec (motive := fun _ => Call) call0 (fun _ ih => callOT P orc ih) n
def memS (s : List Nat) (b : Bool) (p : List Nat × Bool) (ih : Bool) : Bool := bif boolB p.2 b then bif eqL p.1 s then true else ih else ih
def memT (s : List Nat) (b : Bool) (tbl : List (List Nat × Bool)) : Bool := List.rec false (fun p _ ih => memS s b p ih) tbl
def orcA (tbl : List (List Nat × Bool)) (args : V) : Bool := match args with | .cons (.str s) (.cons (.bool b) .nil) => memT s b tbl | _ => false
/-- fa: a call without arguments; fe: one of a text and a bool. -/
def orcT (fa fe : Nat) (tbl : List (List Nat × Bool)) : Nat → V → Bool := fun f args => bif Nat.beq f fa then isNilV args else bif Nat.beq f fe then orcA tbl args else false
/-- It answered true. -/
def isT (x : O E) : Bool := match x with | .ok (.ret (.bool b) _ _) => b | _ => false
end
end Ex
