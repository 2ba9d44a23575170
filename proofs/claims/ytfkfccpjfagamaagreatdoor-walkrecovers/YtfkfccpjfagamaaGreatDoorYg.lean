import Derived.Test.YtfkfccpjfagamaaGreatDoorYf
import Derived.KernelRfl
set_option linter.all false
namespace Ex
open Go
noncomputable section
-- the same evaluator, in a form that the kernel reckons with fewer nodes
def T.getV (t : T V) (k : K) : Option V := K.rec (motive := fun _ => T V → Option V) (fun t => T.rec (motive := fun _ => Option V) none (fun _ v _ _ _ => v) t) (fun _ ih t => T.rec (motive := fun _ => Option V) none (fun l _ _ _ _ => ih l) t) (fun _ ih t => T.rec (motive := fun _ => Option V) none (fun _ _ r _ _ => ih r) t) k t
def T.getO (t : T Ob) (k : K) : Option Ob := K.rec (motive := fun _ => T Ob → Option Ob) (fun t => T.rec (motive := fun _ => Option Ob) none (fun _ v _ _ _ => v) t) (fun _ ih t => T.rec (motive := fun _ => Option Ob) none (fun l _ _ _ _ => ih l) t) (fun _ ih t => T.rec (motive := fun _ => Option Ob) none (fun _ _ r _ _ => ih r) t) k t
theorem T.getV_f : @T.get V = T.getV := by kernel_rfl
theorem T.getO_f : @T.get Ob = T.getO := by kernel_rfl
def T.setV (t : T V) (k : K) (x : V) : T V := K.rec (motive := fun _ => T V → V → T V) (fun t => T.rec (motive := fun _ => V → T V) (fun x => .n .e (some x) .e) (fun l _ r _ _ x => .n l (some x) r) t)
  (fun _ ih t => T.rec (motive := fun _ => V → T V) (fun x => .n (ih .e x) none .e) (fun l v r _ _ x => .n (ih l x) v r) t)
  (fun _ ih t => T.rec (motive := fun _ => V → T V) (fun x => .n .e none (ih .e x)) (fun l v r _ _ x => .n l v (ih r x)) t) k t x
def T.setO (t : T Ob) (k : K) (x : Ob) : T Ob := K.rec (motive := fun _ => T Ob → Ob → T Ob) (fun t => T.rec (motive := fun _ => Ob → T Ob) (fun x => .n .e (some x) .e) (fun l _ r _ _ x => .n l (some x) r) t)
  (fun _ ih t => T.rec (motive := fun _ => Ob → T Ob) (fun x => .n (ih .e x) none .e) (fun l v r _ _ x => .n (ih l x) v r) t)
  (fun _ ih t => T.rec (motive := fun _ => Ob → T Ob) (fun x => .n .e none (ih .e x)) (fun l v r _ _ x => .n l v (ih r x)) t) k t x
theorem T.setV_f : @T.set V = T.setV := by
  funext t k x
  induction k generalizing t with
  | h => cases t <;> rfl
  | o p ih => cases t with
    | e => show T.n (T.set .e p x) none .e = T.n (T.setV .e p x) none .e; rw [ih]
    | n l v r => show T.n (T.set l p x) v r = T.n (T.setV l p x) v r; rw [ih]
  | i p ih => cases t with
    | e => show T.n .e none (T.set .e p x) = T.n .e none (T.setV .e p x); rw [ih]
    | n l v r => show T.n l v (T.set r p x) = T.n l v (T.setV r p x); rw [ih]
theorem T.setO_f : @T.set Ob = T.setO := by
  funext t k x
  induction k generalizing t with
  | h => cases t <;> rfl
  | o p ih => cases t with
    | e => show T.n (T.set .e p x) none .e = T.n (T.setO .e p x) none .e; rw [ih]
    | n l v r => show T.n (T.set l p x) v r = T.n (T.setO l p x) v r; rw [ih]
  | i p ih => cases t with
    | e => show T.n .e none (T.set .e p x) = T.n .e none (T.setO .e p x); rw [ih]
    | n l v r => show T.n l v (T.set r p x) = T.n l v (T.setO r p x); rw [ih]
-- lists by a number, sixteen at a time
def nthN (l : List Nat) : Nat → Option Nat := List.rec (motive := fun _ => Nat → Option Nat) (fun _ => none) (fun a _ ih n => Nat.rec (motive := fun _ => Option Nat) (some a) (fun k _ => ih k) n) l
theorem nthN_eq : ∀ (l : List Nat) (n : Nat), nthN l n = l[n]?
  | [], n => by cases n <;> rfl
  | a :: l, 0 => rfl
  | a :: l, n + 1 => by show nthN l n = _; rw [nthN_eq l n]; rfl
def nthT (l : List TypeInfo) : Nat → Option TypeInfo := List.rec (motive := fun _ => Nat → Option TypeInfo) (fun _ => none) (fun a _ ih n => Nat.rec (motive := fun _ => Option TypeInfo) (some a) (fun k _ => ih k) n) l
theorem nthT_eq : ∀ (l : List TypeInfo) (n : Nat), nthT l n = l[n]?
  | [], n => by cases n <;> rfl
  | a :: l, 0 => rfl
  | a :: l, n + 1 => by show nthT l n = _; rw [nthT_eq l n]; rfl
def nthG (l : List Func) : Nat → Option Func := List.rec (motive := fun _ => Nat → Option Func) (fun _ => none) (fun a _ ih n => Nat.rec (motive := fun _ => Option Func) (some a) (fun k _ => ih k) n) l
theorem nthG_eq : ∀ (l : List Func) (n : Nat), nthG l n = l[n]?
  | [], n => by cases n <;> rfl
  | a :: l, 0 => rfl
  | a :: l, n + 1 => by show nthG l n = _; rw [nthG_eq l n]; rfl
def nthD (l : List Field) : Nat → Option Field := List.rec (motive := fun _ => Nat → Option Field) (fun _ => none) (fun a _ ih n => Nat.rec (motive := fun _ => Option Field) (some a) (fun k _ => ih k) n) l
theorem nthD_eq : ∀ (l : List Field) (n : Nat), nthD l n = l[n]?
  | [], n => by cases n <;> rfl
  | a :: l, 0 => rfl
  | a :: l, n + 1 => by show nthD l n = _; rw [nthD_eq l n]; rfl
def dropN (n : Nat) : List Nat → List Nat := Nat.rec (motive := fun _ => List Nat → List Nat) (fun l => l) (fun _ ih l => List.rec (motive := fun _ => List Nat) [] (fun _ r _ => ih r) l) n
theorem dropN_eq : ∀ (n : Nat) (l : List Nat), dropN n l = l.drop n
  | 0, l => rfl
  | n + 1, [] => rfl
  | n + 1, a :: l => dropN_eq n l
def farN (n : Nat) : List Nat → Nat → Option Nat := Nat.rec (motive := fun _ => List Nat → Nat → Option Nat) (fun l i => nthN l i) (fun _ ih l i => bif Nat.ble 16 i then ih (dropN 16 l) (Nat.sub i 16) else nthN l i) n
theorem farN_eq : ∀ (n : Nat) (l : List Nat) (i : Nat), farN n l i = l[i]?
  | 0, l, i => nthN_eq l i
  | n + 1, l, i => by
    show (bif Nat.ble 16 i then farN n (dropN 16 l) (Nat.sub i 16) else nthN l i) = _
    cases h : Nat.ble 16 i with
    | false => exact nthN_eq l i
    | true =>
      show farN n (dropN 16 l) (Nat.sub i 16) = _
      have h' := Nat.le_of_ble_eq_true h
      rw [farN_eq n, dropN_eq, List.getElem?_drop]
      have : 16 + Nat.sub i 16 = i := Nat.add_sub_of_le h'
      rw [this]
def dropT (n : Nat) : List TypeInfo → List TypeInfo := Nat.rec (motive := fun _ => List TypeInfo → List TypeInfo) (fun l => l) (fun _ ih l => List.rec (motive := fun _ => List TypeInfo) [] (fun _ r _ => ih r) l) n
theorem dropT_eq : ∀ (n : Nat) (l : List TypeInfo), dropT n l = l.drop n
  | 0, l => rfl
  | n + 1, [] => rfl
  | n + 1, a :: l => dropT_eq n l
def farT (n : Nat) : List TypeInfo → Nat → Option TypeInfo := Nat.rec (motive := fun _ => List TypeInfo → Nat → Option TypeInfo) (fun l i => nthT l i) (fun _ ih l i => bif Nat.ble 16 i then ih (dropT 16 l) (Nat.sub i 16) else nthT l i) n
theorem farT_eq : ∀ (n : Nat) (l : List TypeInfo) (i : Nat), farT n l i = l[i]?
  | 0, l, i => nthT_eq l i
  | n + 1, l, i => by
    show (bif Nat.ble 16 i then farT n (dropT 16 l) (Nat.sub i 16) else nthT l i) = _
    cases h : Nat.ble 16 i with
    | false => exact nthT_eq l i
    | true =>
      show farT n (dropT 16 l) (Nat.sub i 16) = _
      have h' := Nat.le_of_ble_eq_true h
      rw [farT_eq n, dropT_eq, List.getElem?_drop]
      have : 16 + Nat.sub i 16 = i := Nat.add_sub_of_le h'
      rw [this]
def dropG (n : Nat) : List Func → List Func := Nat.rec (motive := fun _ => List Func → List Func) (fun l => l) (fun _ ih l => List.rec (motive := fun _ => List Func) [] (fun _ r _ => ih r) l) n
theorem dropG_eq : ∀ (n : Nat) (l : List Func), dropG n l = l.drop n
  | 0, l => rfl
  | n + 1, [] => rfl
  | n + 1, a :: l => dropG_eq n l
def farG (n : Nat) : List Func → Nat → Option Func := Nat.rec (motive := fun _ => List Func → Nat → Option Func) (fun l i => nthG l i) (fun _ ih l i => bif Nat.ble 16 i then ih (dropG 16 l) (Nat.sub i 16) else nthG l i) n
theorem farG_eq : ∀ (n : Nat) (l : List Func) (i : Nat), farG n l i = l[i]?
  | 0, l, i => nthG_eq l i
  | n + 1, l, i => by
    show (bif Nat.ble 16 i then farG n (dropG 16 l) (Nat.sub i 16) else nthG l i) = _
    cases h : Nat.ble 16 i with
    | false => exact nthG_eq l i
    | true =>
      show farG n (dropG 16 l) (Nat.sub i 16) = _
      have h' := Nat.le_of_ble_eq_true h
      rw [farG_eq n, dropG_eq, List.getElem?_drop]
      have : 16 + Nat.sub i 16 = i := Nat.add_sub_of_le h'
      rw [this]
def nthLF (l : List Nat) (n : Nat) : Option Nat := farN 1000000 l n
theorem nthL_f : @nthL = @nthLF := by
  funext l n
  unfold nthLF
  rw [farN_eq]
  induction l generalizing n with
  | nil => cases n <;> rfl
  | cons a l ih => cases n with
    | zero => rfl
    | succ n => show nthL l n = _; rw [ih]; rfl
def infoP (P : Program) (t : Nat) : Option TypeInfo := P.info? t
def infoPF (P : Program) (t : Nat) : Option TypeInfo := match farT 100000 P.types.toList t with | some i => some i | none => P.info? t
theorem infoP_f : @infoP = @infoPF := by
  funext P t
  unfold infoPF
  rw [farT_eq]
  cases h : P.types.toList[t]? with
  | none => rfl
  | some i =>
    have h2 : P.types[t]? = some i := by rw [← h]; simp
    have h3 : t < P.types.size := (Array.getElem?_eq_some_iff.1 h2).1
    show P.info? t = some i
    unfold Tables.info?
    rw [if_pos h3, h2]
/-- What a type is: of a named one what stands below. -/
def undS (P : Program) (i : TypeInfo) : Option TypeDesc := match i.desc with
  | .invalid => some .invalid | .bool => some .bool | .int k => some (.int k) | .float k => some (.float k) | .complex k => some (.complex k) | .string => some .string | .unsafePointer => some .unsafePointer
  | .pointer e => some (.pointer e) | .slice e => some (.slice e) | .array n e => some (.array n e) | .map k e => some (.map k e) | .chan d e => some (.chan d e) | .struct fs => some (.struct fs)
  | .func a b c => some (.func a b c) | .interface m => some (.interface m) | .tuple es => some (.tuple es)
  | .named _ u => (match infoP P u with | some j => some j.desc | none => none)
def undP (P : Program) (t : Nat) : Option TypeDesc := P.underlying t
def undPF (P : Program) (t : Nat) : Option TypeDesc := match infoP P t with | some i => undS P i | none => none
theorem undP_f : @undP = @undPF := by
  funext P t
  unfold undPF undP Program.underlying
  show _ = (match P.info? t with | some i => undS P i | none => none)
  cases P.info? t with
  | none => rfl
  | some i =>
    obtain ⟨d, _, _, _, _, _, _, _, _, _⟩ := i
    cases d <;> try rfl
    rename_i u
    simp only [undS, infoP]
    cases P.info? u <;> rfl
def cellsP (P : Program) (t : Nat) : Nat := P.cellsOf t
def cellsPF (P : Program) (t : Nat) : Nat := match infoP P t with | some i => i.size | none => 0
theorem cellsP_f : @cellsP = @cellsPF := by
  funext P t
  unfold cellsPF cellsP Program.cellsOf
  show _ = (match P.info? t with | some i => i.size | none => 0)
  cases P.info? t <;> rfl
theorem undP_e : @Program.underlying = @undP := rfl
theorem cellsP_e : @Program.cellsOf = @cellsP := rfl
-- by the first sign of a value
def V.onPtr {β : Type} (d : β) (f : K → Nat → β) (v : V) : β := match v with
  | .bool _ => d | .int _ _ => d | .str _ => d | .nilp => d | .ptr b o => f b o | .nils => d | .sl _ _ _ _ => d | .slu _ _ _ _ => d | .nilmap => d | .map _ => d | .nilfn => d | .fn _ _ _ => d | .yld _ => d | .sle => d
  | .nili => d | .iface _ _ => d | .agg _ => d | .tup _ => d | .nil => d | .cons _ _ => d
def V.onInt {β : Type} (d : β) (f : IntKind → Int → β) (v : V) : β := match v with
  | .bool _ => d | .int k n => f k n | .str _ => d | .nilp => d | .ptr _ _ => d | .nils => d | .sl _ _ _ _ => d | .slu _ _ _ _ => d | .nilmap => d | .map _ => d | .nilfn => d | .fn _ _ _ => d | .yld _ => d | .sle => d
  | .nili => d | .iface _ _ => d | .agg _ => d | .tup _ => d | .nil => d | .cons _ _ => d
def V.onStr {β : Type} (d : β) (f : List Nat → β) (v : V) : β := match v with
  | .bool _ => d | .int _ _ => d | .str s => f s | .nilp => d | .ptr _ _ => d | .nils => d | .sl _ _ _ _ => d | .slu _ _ _ _ => d | .nilmap => d | .map _ => d | .nilfn => d | .fn _ _ _ => d | .yld _ => d | .sle => d
  | .nili => d | .iface _ _ => d | .agg _ => d | .tup _ => d | .nil => d | .cons _ _ => d
/-- a number, a text, or else -/
def V.onIS {β : Type} (d : β) (f : IntKind → Int → β) (g : List Nat → β) (v : V) : β := match v with
  | .bool _ => d | .int k n => f k n | .str s => g s | .nilp => d | .ptr _ _ => d | .nils => d | .sl _ _ _ _ => d | .slu _ _ _ _ => d | .nilmap => d | .map _ => d | .nilfn => d | .fn _ _ _ => d | .yld _ => d | .sle => d
  | .nili => d | .iface _ _ => d | .agg _ => d | .tup _ => d | .nil => d | .cons _ _ => d
/-- a slice, or else -/
def V.onSl {β : Type} (d : β) (f : K → Nat → Nat → Nat → β) (g : K → Nat → Nat → Nat → β) (v : V) : β := match v with
  | .bool _ => d | .int _ _ => d | .str _ => d | .nilp => d | .ptr _ _ => d | .nils => d | .sl b o n c => f b o n c | .slu b o n c => g b o n c | .nilmap => d | .map _ => d | .nilfn => d | .fn _ _ _ => d | .yld _ => d | .sle => d
  | .nili => d | .iface _ _ => d | .agg _ => d | .tup _ => d | .nil => d | .cons _ _ => d
def onStruct {β : Type} (d : β) (f : Array Field → β) (t : Option TypeDesc) : β := match t with
  | none => d
  | some t => match t with
    | .invalid => d | .bool => d | .int _ => d | .float _ => d | .complex _ => d | .string => d | .unsafePointer => d | .pointer _ => d | .slice _ => d | .array _ _ => d | .map _ _ => d | .chan _ _ => d
    | .struct fs => f fs | .func _ _ _ => d | .interface _ => d | .tuple _ => d | .named _ _ => d
def onSlice {β : Type} (d : β) (f : Nat → β) (t : Option TypeDesc) : β := match t with
  | none => d
  | some t => match t with
    | .invalid => d | .bool => d | .int _ => d | .float _ => d | .complex _ => d | .string => d | .unsafePointer => d | .pointer _ => d | .slice e => f e | .array _ _ => d | .map _ _ => d | .chan _ _ => d
    | .struct _ => d | .func _ _ _ => d | .interface _ => d | .tuple _ => d | .named _ _ => d
/-- a number's, a text's, or else -/
def onIST {β : Type} (d f g : β) (t : Option TypeDesc) : β := match t with
  | none => d
  | some t => match t with
    | .invalid => d | .bool => d | .int _ => f | .float _ => d | .complex _ => d | .string => g | .unsafePointer => d | .pointer _ => d | .slice _ => d | .array _ _ => d | .map _ _ => d | .chan _ _ => d
    | .struct _ => d | .func _ _ _ => d | .interface _ => d | .tuple _ => d | .named _ _ => d
-- operations
def eqS0 (P : Program) (h : H) (ih : Nat → V → V → O Bool) (t : Nat) (x y : V) : O Bool := eqS P h ih t x y
theorem eqS0_f : @eqS0 = @eqS := rfl
def eqI1 (P : Program) (h : H) (ih : Nat → V → V → O Bool) (t : Nat) (x y : V) : O Bool :=
  V.onInt (fun P h ih t x y => eqS0 P h ih t x y) (fun k a P h ih t x y => V.onInt (fun P h ih t x y _ _ => eqS0 P h ih t x y) (fun k' b _ _ _ _ _ _ k a => bif kindB k k' then .ok (eqI a b) else .no 15) y P h ih t x y k a) x P h ih t x y
def eqT1 (P : Program) (h : H) (ih : Nat → V → V → O Bool) (t : Nat) (x y : V) : O Bool :=
  V.onStr (fun P h ih t x y => eqS0 P h ih t x y) (fun a P h ih t x y => V.onStr (fun P h ih t x y _ => eqS0 P h ih t x y) (fun b _ _ _ _ _ _ a => .ok (beqL a b)) y P h ih t x y a) x P h ih t x y
def eqSF (P : Program) (h : H) (ih : Nat → V → V → O Bool) (t : Nat) (x y : V) : O Bool :=
  onIST (fun P h ih t x y => eqS0 P h ih t x y) (fun P h ih t x y => eqI1 P h ih t x y) (fun P h ih t x y => eqT1 P h ih t x y) (P.underlying t) P h ih t x y
theorem eqS_f : @eqS = @eqSF := by
  funext P h ih t x y
  unfold eqSF onIST
  cases e : P.underlying t with
  | none => rfl
  | some u =>
    cases u <;> try rfl
    · cases x <;> try rfl
      cases y <;> try rfl
      simp only [eqS, e, eqI1, V.onInt]
    · cases x <;> try rfl
      cases y <;> try rfl
      simp only [eqS, e, eqT1, V.onStr]
def binV0 (P : Program) (h : H) (op : BinOp) (xt : Nat) (ox oy : Operand) (x y : V) : O V := binV P h op xt ox oy x y
theorem binV0_f : @binV0 = @binV := rfl
def binVF (P : Program) (h : H) (op : BinOp) (xt : Nat) (ox oy : Operand) (x y : V) : O V :=
  V.onIS (fun P h op xt ox oy x y => binV0 P h op xt ox oy x y)
    (fun k a P h op xt ox oy x y => V.onInt (fun P h op xt ox oy x y _ _ => binV0 P h op xt ox oy x y) (fun k' b _ _ op _ _ _ _ _ k a => binI op k a k' b) y P h op xt ox oy x y k a)
    (fun s P h op xt ox oy x y => V.onStr (fun P h op xt ox oy x y _ => binV0 P h op xt ox oy x y) (fun s' _ _ op _ _ _ _ _ s => binS op s s') y P h op xt ox oy x y s) x P h op xt ox oy x y
theorem binV_f : @binV = @binVF := by
  funext P h op xt ox oy x y
  cases x <;> try rfl
  all_goals cases y <;> rfl
def faS (fields : Array Field) (P : Program) (h : H) (b : K) (o f : Nat) : O Nx := match nthD fields.toList f with
  | some fd => bif Nat.beq (P.cellsOf fd.type) 0 then .no 77 else .ok (.val (.ptr b (o + fd.offset)) h)
  | none => .no 78
def opFieldaddrF (P : Program) (η : Env) (h : H) (s : Nat) (x : Operand) (f : Nat) : O Nx := (opd η x).bnd fun v =>
  V.onPtr (fun _ _ _ _ => .no 79) (fun b o P h s f => onStruct (fun _ _ _ _ _ => .no 79) (fun fields P h b o f => faS fields P h b o f) (P.underlying s) P h b o f) v P h s f
theorem opFieldaddr_f : @opFieldaddr = @opFieldaddrF := by
  funext P η h s x f
  show ((opd η x).bnd fun v => _) = ((opd η x).bnd fun v => _)
  congr 1
  funext v
  cases v <;> try rfl
  rename_i b o
  show _ = onStruct (fun _ _ _ _ _ => .no 79) (fun fields P h b o f => faS fields P h b o f) (P.underlying s) P h b o f
  cases e : P.underlying s with
  | none => rfl
  | some u =>
    cases u <;> try rfl
    rename_i fields
    simp only [onStruct, faS, nthD_eq]
    rw [show fields.toList[f]? = fields[f]? by simp]
    rfl
def opIndexaddr0 (P : Program) (η : Env) (h : H) (t : Nat) (x : Operand) (ix : Operand) : O Nx := opIndexaddr P η h t x ix
theorem opIndexaddr0_f : @opIndexaddr0 = @opIndexaddr := rfl
def iaS (P : Program) (h : H) (e : Nat) (b : K) (o n : Nat) (i : Option Nat) : O Nx := match i with | some i => idxAt P h e b o i n | none => .no 85
def opIndexaddrF (P : Program) (η : Env) (h : H) (t : Nat) (x : Operand) (ix : Operand) : O Nx := (opd η x).bnd fun v => (opd η ix).bnd fun i =>
  onSlice (fun P η h t x ix _ _ => opIndexaddr0 P η h t x ix) (fun e P η h t x ix v i =>
    V.onSl (fun P η h t x ix _ _ => opIndexaddr0 P η h t x ix) (fun b o n _ P _ h _ _ _ e i => iaS P h e b o n (natI i)) (fun b o n _ P _ h _ _ _ e i => iaS P h e b o n (natI i)) v P η h t x ix e i) (P.underlying t) P η h t x ix v i
theorem opIndexaddr_f : @opIndexaddr = @opIndexaddrF := by
  funext P η h t x ix
  unfold opIndexaddrF
  cases e1 : opd η x with
  | no c => simp only [opIndexaddr, e1, O.bnd]
  | ok v => cases e2 : opd η ix with
    | no c => simp only [opIndexaddr, e1, e2, O.bnd]
    | ok i =>
      show _ = (onSlice (β := Program → Env → H → Nat → Operand → Operand → V → V → O Nx) (fun P η h t x ix _ _ => opIndexaddr0 P η h t x ix) (fun e P η h t x ix v i =>
    V.onSl (fun P η h t x ix _ _ => opIndexaddr0 P η h t x ix) (fun b o n _ P _ h _ _ _ e i => iaS P h e b o n (natI i)) (fun b o n _ P _ h _ _ _ e i => iaS P h e b o n (natI i)) v P η h t x ix e i) (P.underlying t)) P η h t x ix v i
      cases e : P.underlying t with
      | none => rfl
      | some u =>
        cases u <;> try rfl
        cases v <;> try rfl
        all_goals
          simp only [opIndexaddr, e1, e2, O.bnd, e, onSlice, V.onSl, iaS]
          cases natI i <;> rfl
def bi_len0 (P : Program) (h : H) (at_ : Array Nat) (args : V) : O Nx := bi_len P h at_ args
theorem bi_len0_f : @bi_len0 = @bi_len := rfl
def V.onOne {β : Type} (d : β) (f : V → β) (v : V) : β := match v with
  | .bool _ => d | .int _ _ => d | .str _ => d | .nilp => d | .ptr _ _ => d | .nils => d | .sl _ _ _ _ => d | .slu _ _ _ _ => d | .nilmap => d | .map _ => d | .nilfn => d | .fn _ _ _ => d | .yld _ => d | .sle => d
  | .nili => d | .iface _ _ => d | .agg _ => d | .tup _ => d | .nil => d | .cons x r => match r with
    | .bool _ => d | .int _ _ => d | .str _ => d | .nilp => d | .ptr _ _ => d | .nils => d | .sl _ _ _ _ => d | .slu _ _ _ _ => d | .nilmap => d | .map _ => d | .nilfn => d | .fn _ _ _ => d | .yld _ => d | .sle => d
    | .nili => d | .iface _ _ => d | .agg _ => d | .tup _ => d | .nil => f x | .cons _ _ => d
def lenR (n : Nat) (h : H) : O Nx := .ok (.val (.int .i64 (.ofNat n)) h)
def bi_lenF (P : Program) (h : H) (at_ : Array Nat) (args : V) : O Nx :=
  V.onOne (fun P h a args => bi_len0 P h a args) (fun x P h a args =>
    onSlice (fun P h a args x => onIST (fun P h a args _ => bi_len0 P h a args) (fun P h a args _ => bi_len0 P h a args) (fun P h a args x => V.onStr (fun P h a args => bi_len0 P h a args) (fun s _ h _ _ => lenR (lenL s) h) x P h a args) ((a[0]?).bind P.underlying) P h a args x)
      (fun _ P h a args x => V.onSl (fun P h a args => bi_len0 P h a args) (fun _ _ n _ _ h _ _ => lenR n h) (fun _ _ n _ _ h _ _ => lenR n h) x P h a args) ((a[0]?).bind P.underlying) P h a args x) args P h at_ args
theorem bi_len_f : @bi_len = @bi_lenF := by
  funext P h a args
  unfold bi_lenF
  cases args <;> try rfl
  rename_i x r
  cases r <;> try rfl
  simp only [V.onOne]
  cases e : (a[0]?).bind P.underlying with
  | none => simp only [onSlice, onIST, bi_len0, e]
  | some u =>
    cases u <;> simp only [onSlice, onIST, bi_len0, e]
    all_goals
      cases x <;> simp only [bi_len, e, V.onSl, V.onStr, lenR]
-- calls
def cfE (P : Program) (h : H) (f : Nat) (args : V) (_fn : Func) : O Nx := .ok (.enter f args h)
def callF0 (P : Program) (h : H) (f : Nat) (args : V) : O Nx := callF P h f args
theorem callF0_f : @callF0 = @callF := rfl
def callFF (P : Program) (h : H) (f : Nat) (args : V) : O Nx := ((match farG 100000 P.funcs.toList f with
  | none => fun _ _ _ _ => .no 48
  | some fn => fun P h f args => ((match fn.body with | none => fun P h f args => callF0 P h f args | some _ => fun _ h f args => .ok (.enter f args h)) : Program → H → Nat → V → O Nx) P h f args) : Program → H → Nat → V → O Nx) P h f args
theorem callF_f : @callF = @callFF := by
  funext P h f args
  unfold callFF
  rw [show farG 100000 P.funcs.toList f = P.funcs[f]? by rw [farG_eq]; simp]
  cases e : P.funcs[f]? with
  | none => simp only [callF, e]
  | some fn =>
    show _ = (match fn.body with | none => _ | some _ => _ : Program → H → Nat → V → O Nx) P h f args
    cases e2 : fn.body with
    | none => rfl
    | some b => simp only [callF, e, e2, Option.isNone, cond]
def opMM (P : Program) (η : Env) (h : H) (t : Nat) (x : Option Operand) : O Nx := ((match x with | none => fun P η h _ => opMakemap0 P η h | some x => fun P η h t => opMakemap P η h t x) : Program → Env → H → Nat → O Nx) P η h t
def evOpF (P : Program) (o : Oper) (η : Env) (h : H) : O Nx := ((match o.op with
  | .move x => fun P η h => opMove P η h x
  | .assign x => fun P η h => opMove P η h x
  | .pick c a b => fun P η h => opPick P η h c a b
  | .alloc t => fun P η h => opAlloc P η h t
  | .box t x => fun P η h => opBox P η h t x
  | .build t parts => fun P η h => opBuild P η h t parts
  | .buildSlice t len parts => fun P η h => opBuildslice P η h t len parts
  | .insert t m k x => fun P η h => opMapupdate P η h t m k x
  | .load t a => fun P η h => opLoad P η h t a
  | .store t a x => fun P η h => opStore P η h t a x
  | .ready _ => fun _ _ _ => .no 116
  | .waits _ => fun _ _ _ => .no 116
  | .nilCheck x => fun P η h => opNilcheck P η h x
  | .binOp op xt x y _ => fun P η h => opBinop P η h op xt x y
  | .unOp op _ x => fun P η h => opUnop P η h op x
  | .convert s d x => fun P η h => opConvert P η h s d x
  | .sliceToArrayPointer _ _ => fun _ _ _ => .no 116
  | .makeInterface t x => fun P η h => opMakeinterface P η h t x
  | .makeFunc fn first cap => fun P η h => opMakefunc P η h fn first cap
  | .makeMap t x => fun P η h => opMM P η h t x
  | .makeChan _ _ => fun _ _ _ => .no 116
  | .makeSlice t l c => fun P η h => opMakeslice P η h t l c
  | .slice t x lo hi mx => fun P η h => opSlice P η h t x lo hi mx
  | .fieldAddr s x f => fun P η h => opFieldaddr P η h s x f
  | .field t x f => fun P η h => opField P η h t x f
  | .indexAddr t x ix => fun P η h => opIndexaddr P η h t x ix
  | .index t x ix => fun P η h => opIndex P η h t x ix
  | .lookup t x ix ok => fun P η h => opLookup P η h t x ix ok
  | .mapUpdate t m k x => fun P η h => opMapupdate P η h t m k x
  | .mapEntry _ _ _ => fun _ _ _ => .no 116
  | .entryStore _ _ _ _ => fun _ _ _ => .no 116
  | .range t x => fun P η h => opRange P η h t x
  | .next x b => fun P η h => opNext P η h x b
  | .entry _ => fun _ _ _ => .no 116
  | .typeAssert x _ want ok => fun P η h => opTypeassert P η h x want ok
  | .extract t ix => fun P η h => opExtract P η h t ix
  | .call c => fun P η h => opCall P η h c
  | .go _ => fun _ _ _ => .no 116
  | .defer c => fun P η h => opDefer P η h c
  | .panic x => fun P η h => opPanic P η h x
  | .send _ _ => fun _ _ _ => .no 116
  | .recv _ _ _ => fun _ _ _ => .no 116
  | .select _ _ => fun _ _ _ => .no 116) : Program → Env → H → O Nx) P η h
theorem evOp_f : @evOp = @evOpF := by
  funext P o η h
  obtain ⟨dst, op, t, pos, after, guard⟩ := o
  cases op <;> try rfl
  rename_i t x
  cases x <;> rfl
-- code
def afterOpF (call : Call) (pn : Option (Option V)) (dst : Option Nat) (ih : RegT) (η : Env) (ds : V) (q : Bool) (nx : Nx) : O (R × Bool) := ((match nx with
  | .val v h => fun _ _ dst ih η ds q => ih (putD η dst v) ds h q
  | .skip h => fun _ _ dst ih η ds q => ih (delD η dst) ds h q
  | .enter f args h => fun call _ dst ih η ds q => (call.c none f args h).bnd fun e => afterCall dst ih η ds q e
  | .round b args h => fun call _ dst ih η ds q => (call.r b args h).bnd fun e => afterCall dst ih η ds q e
  | .defer f args h => fun _ _ dst ih η ds q => ih (delD η dst) (.cons (.fn f args .nil) ds) h q
  | .recover h => fun _ pn dst ih η ds q => (match pn with
    | none => .no 117
    | some none => ih (putD η dst .nili) ds h q
    | some (some v) => bif q then ih (putD η dst .nili) ds h true else ih (putD η dst v) ds h true)
  | .pan v h => fun _ _ _ _ η ds q => .ok (.pan v η ds h, q)) : Call → Option (Option V) → Option Nat → RegT → Env → V → Bool → O (R × Bool)) call pn dst ih η ds q
theorem afterOp_f : @afterOp = @afterOpF := by
  funext call pn dst ih η ds q nx
  cases nx <;> rfl
def wantedBF (all : List Oper) (η : Env) (g : Option (Nat × Bool)) : O Bool := ((match g with
  | none => fun _ _ => .ok true
  | some p => fun all η => (match (all[p.1]?).bind (·.dst) with
    | some d => wantV p.2 (η.get (key d))
    | none => .ok false)) : List Oper → Env → O Bool) all η
theorem wantedB_f : @wantedB = @wantedBF := by
  funext all η g
  cases g with
  | none => rfl
  | some p => obtain ⟨j, w⟩ := p; rfl
def sameDF (a b : Rw) : Bool := ((match a.o.dst with
  | none => fun _ => false
  | some d => fun e => ((match e with | none => fun _ => false | some e => fun d => Nat.beq d e) : Nat → Bool) d) : Option Nat → Bool) b.o.dst
theorem sameD_f : @sameD = @sameDF := by
  funext a b
  unfold sameDF sameD
  cases a.o.dst <;> cases b.o.dst <;> rfl
-- drawn regions
structure RunR where
  es : List En
  px : Option (V × H)
  η : Env
  h : H
abbrev RunF := Env → H → O RunR
def toR (η : Env) (h : H) (x : O (List En × Option (V × H))) : O RunR := x.bnd fun p => .ok ⟨p.1, p.2, eEnd p.1 η, hEnd p.1 h⟩
def contF (r : Rw) (η : Env) (y : Bool) (h : H) (ih : RunF) (v : V) (h' : H) : O RunR := (ih (putD η r.o.dst v) h').bnd fun p => .ok ⟨⟨r, η, y, v, h, h'⟩ :: p.es, p.px, p.η, p.h⟩
def callDF (P : Program) (all : List Oper) (r : Rw) (η : Env) (h : H) (rest : List Rw) (ih : RunF) (e : E) : O RunR := match e with
  | .ret v h' _ => contF r η true h ih v h'
  | .pan v h' _ => toR η h (panD P all r η h rest v h')
def heavyF (P : Program) (all : List Oper) (call : Call) (r : Rw) (η : Env) (h : H) (rest : List Rw) (ih : RunF) (nx : Nx) : O RunR := match nx with
  | .val v h' => contF r η true h ih v h'
  | .skip h' => contF r η true h ih (.tup .nil) h'
  | .enter f args h1 => (call.c none f args h1).bnd fun e => callDF P all r η h rest ih e
  | .round b args h1 => (call.r b args h1).bnd fun e => callDF P all r η h rest ih e
  | .pan v h' => toR η h (panD P all r η h rest v h')
  | .defer _ _ _ => .no 151
  | .recover _ => .no 151
def runSF (P : Program) (all : List Oper) (call : Call) (r : Rw) (rest : List Rw) (ih : RunF) (η : Env) (h : H) (y : Bool) : O RunR := bif y then
    bif r.hv then (evOp P r.o η h).bnd fun nx => heavyF P all call r η h rest ih nx
    else (evL P r.o η h).bnd fun v => contF r η true h ih v h
  else contF r η false h ih (.tup .nil) h
def runDF (P : Program) (all : List Oper) (call : Call) (l : List Rw) : RunF := List.rec (motive := fun _ => RunF) (fun η h => .ok ⟨[], none, η, h⟩) (fun r rest ih η h => (wantedB all η r.o.guard).bnd fun y => runSF P all call r rest ih η h y) l
theorem contF_eq {P : Program} {all : List Oper} {call : Call} {l : List Rw} (ih : ∀ η h, runDF P all call l η h = toR η h (runD P all call l η h)) (r : Rw) (η : Env) (y : Bool) (h : H) (v : V) (h' : H) :
    contF r η y h (runDF P all call l) v h' = toR η h (contD r η y h (runD P all call l) v h') := by
  unfold contF contD
  rw [ih]
  cases runD P all call l (putD η r.o.dst v) h' <;> rfl
theorem runDF_eq {P : Program} {all : List Oper} {call : Call} : ∀ (l : List Rw) (η : Env) (h : H), runDF P all call l η h = toR η h (runD P all call l η h)
  | [], η, h => rfl
  | r :: l, η, h => by
    have ih := runDF_eq (P := P) (all := all) (call := call) l
    show ((wantedB all η r.o.guard).bnd fun y => runSF P all call r l (runDF P all call l) η h y) = toR η h ((wantedB all η r.o.guard).bnd fun y => runS P all call r l (runD P all call l) η h y)
    cases wantedB all η r.o.guard with
    | no c => rfl
    | ok y =>
      show runSF P all call r l (runDF P all call l) η h y = toR η h (runS P all call r l (runD P all call l) η h y)
      unfold runSF runS
      cases y with
      | false => exact contF_eq ih r η false h _ h
      | true =>
        cases r.hv with
        | false =>
          show ((evL P r.o η h).bnd fun v => _) = toR η h ((evL P r.o η h).bnd fun v => _)
          cases evL P r.o η h with
          | no c => rfl
          | ok v => exact contF_eq ih r η true h v h
        | true =>
          show ((evOp P r.o η h).bnd fun nx => heavyF P all call r η h l (runDF P all call l) nx) = toR η h ((evOp P r.o η h).bnd fun nx => heavyD P all call r η h l (runD P all call l) nx)
          cases evOp P r.o η h with
          | no c => rfl
          | ok nx =>
            cases nx with
            | val v h' => exact contF_eq ih r η true h v h'
            | skip h' => exact contF_eq ih r η true h _ h'
            | defer f a h' => rfl
            | recover h' => rfl
            | pan v h' => rfl
            | enter f a h1 =>
              show ((call.c none f a h1).bnd fun e => callDF P all r η h l (runDF P all call l) e) = toR η h ((call.c none f a h1).bnd fun e => callD P all r η h l (runD P all call l) e)
              cases call.c none f a h1 with
              | no c => rfl
              | ok e =>
                cases e with
                | ret v h' _ => exact contF_eq ih r η true h v h'
                | pan v h' _ => rfl
            | round f a h1 =>
              show ((call.r f a h1).bnd fun e => callDF P all r η h l (runDF P all call l) e) = toR η h ((call.r f a h1).bnd fun e => callD P all r η h l (runD P all call l) e)
              cases call.r f a h1 with
              | no c => rfl
              | ok e =>
                cases e with
                | ret v h' _ => exact contF_eq ih r η true h v h'
                | pan v h' _ => rfl
structure Seg where
  x : En
  m : Nat
structure Segs where
  l : List Seg
  m : Nat
/-- Those that change the heap, each with the set of those between it and the one ahead of it; and the set behind the last one. -/
def segF (es : List En) : Nat → Segs := List.rec (motive := fun _ => Nat → Segs) (fun m => ⟨[], m⟩) (fun x _ ih m => bif x.r.hv then ⟨⟨x, m⟩ :: (ih 0).l, (ih 0).m⟩ else ih (Nat.lor m (Nat.pow 2 x.r.i))) es
def lvlM (P : Program) (k : En) (hf : H) (last : Nat) (l : List Seg) : Bool := List.rec (motive := fun _ => Bool) (bif bit last k.r.i then true else sameAt P k hf)
  (fun s _ ih => bif (bif bit s.m k.r.i then true else bif bit k.r.b s.x.r.i then true else sameAt P k s.x.hb) then (bif bit s.x.r.b k.r.i then true else ih) else false) l
theorem bit_t (m k : Nat) : bit m k = m.testBit k := by
  unfold bit Nat.testBit
  show Nat.beq ((m >>> k) &&& 1) 1 = (1 &&& (m >>> k) != 0)
  rw [Nat.and_comm 1, Nat.and_one_is_mod]
  have := Nat.mod_lt (m >>> k) (show 0 < 2 by omega)
  generalize (m >>> k) % 2 = x at this ⊢
  match x, this with
  | 0, _ => rfl
  | 1, _ => rfl
theorem bit_lor (m i k : Nat) : bit (Nat.lor m (Nat.pow 2 i)) k = (bif Nat.beq i k then true else bit m k) := by
  rw [bit_t, bit_t]
  show (m ||| 2 ^ i).testBit k = _
  rw [Nat.testBit_or, Nat.testBit_two_pow]
  by_cases h : i = k
  · subst h
    rw [Nat.beq_refl]; simp
  · have : Nat.beq i k = false := by
      cases e : Nat.beq i k with
      | true => exact absurd (Nat.eq_of_beq_eq_true e) h
      | false => rfl
    rw [this]; simp [h]
theorem lvlM_eq {P : Program} {k : En} {hf : H} : ∀ (es : List En) (m : Nat), lvlM P k hf (segF es m).m (segF es m).l = lvls P k hf es (bit m k.r.i)
  | [], m => rfl
  | x :: es, m => by
    show lvlM P k hf (bif x.r.hv then (⟨⟨x, m⟩ :: (segF es 0).l, (segF es 0).m⟩ : Segs) else segF es (Nat.lor m (Nat.pow 2 x.r.i))).m (bif x.r.hv then (⟨⟨x, m⟩ :: (segF es 0).l, (segF es 0).m⟩ : Segs) else segF es (Nat.lor m (Nat.pow 2 x.r.i))).l = lvlS P k x (lvls P k hf es) (bit m k.r.i)
    unfold lvlS
    cases x.r.hv with
    | true =>
      have h0 := lvlM_eq (P := P) (k := k) (hf := hf) es 0
      have hz : bit 0 k.r.i = false := by rw [bit_t]; exact Nat.zero_testBit _
      rw [hz] at h0
      show (bif (bif bit m k.r.i then true else bif bit k.r.b x.r.i then true else sameAt P k x.hb) then (bif bit x.r.b k.r.i then true else lvlM P k hf (segF es 0).m (segF es 0).l) else false) = _
      rw [h0]; rfl
    | false =>
      have h0 := lvlM_eq (P := P) (k := k) (hf := hf) es (Nat.lor m (Nat.pow 2 x.r.i))
      rw [bit_lor] at h0
      exact h0
def lvlKF (P : Program) (hf : H) (s : Segs) (k : En) : Bool := bif k.r.hv then true else bif k.y then lvlM P k hf s.m s.l else true
def lvlAF (P : Program) (hf : H) (s : Segs) (l : List En) : Bool := List.rec true (fun k _ ih => bif lvlKF P hf s k then ih else false) l
theorem lvlAF_eq {P : Program} {hf : H} {all : List En} : ∀ (l : List En), lvlAF P hf (segF all 0) l = lvlA P hf all l
  | [] => rfl
  | k :: l => by
    show (bif lvlKF P hf (segF all 0) k then lvlAF P hf (segF all 0) l else false) = (bif lvlK P hf all k then lvlA P hf all l else false)
    have hz : bit 0 k.r.i = false := by rw [bit_t]; exact Nat.zero_testBit _
    have h1 := lvlM_eq (P := P) (k := k) (hf := hf) all 0
    rw [hz] at h1
    have h2 : lvlKF P hf (segF all 0) k = lvlK P hf all k := by unfold lvlKF lvlK; rw [h1]
    rw [h2, lvlAF_eq l]
def finF (ops : Array Oper) (η : Env) (ds : V) (q : Bool) (p : RunR) : O (R × Bool) := match p.px with
  | none => .ok (.nor p.η ds p.h, q)
  | some (v, h') => .ok (.pan v (delAll ops.toList η) ds h', q)
def regDF (P : Program) (call : Call) (ops : Array Oper) (η : Env) (ds : V) (h : H) (q : Bool) : O (R × Bool) := bif regOkS ops then
    (runDF P ops.toList call (ordOf ops) η h).bnd fun p => bif lvlAF P p.h (segF p.es 0) p.es then finF ops η ds q p else .no 153
  else .no 154
theorem regD_f : @regD = @regDF := by
  funext P call ops η ds h q
  unfold regD regDF
  rw [runDF_eq]
  cases regOkS ops with
  | false => rfl
  | true =>
    cases runD P ops.toList call (ordOf ops) η h with
    | no c => rfl
    | ok p =>
      show (bif lvlA P (hEnd p.1 h) p.1 p.1 then finD ops η ds q h p else .no 153) = (bif lvlAF P (hEnd p.1 h) (segF p.1 0) p.1 then finF ops η ds q ⟨p.1, p.2, eEnd p.1 η, hEnd p.1 h⟩ else .no 153)
      rw [lvlAF_eq]
      cases lvlA P (hEnd p.1 h) p.1 p.1 with
      | false => rfl
      | true =>
        obtain ⟨es, px⟩ := p
        cases px <;> rfl
def evSF (P : Program) (call : Call) (pn : Option (Option V)) (ih : EvT) (c : Code) (η : Env) (ds : V) (h : H) (q : Bool) : O (R × Bool) := ((match c with
    | .skip => fun _ _ _ _ η ds h q => .ok (.nor η ds h, q)
    | .region _ ops d => fun P call pn _ η ds h q => bif d then regD P call ops η ds h q else reg P ops.toList call pn ops.toList η ds h q
    | .seq a b => fun _ _ _ ih η ds h q => (ih a η ds h q).bnd (evSeq ih b)
    | .cond x a b => fun _ _ _ ih η ds h q => (opd η x).bnd (evCond ih a b η ds h q)
    | .block id b => fun _ _ _ ih η ds h q => (ih b η ds h q).bnd (evBlk id)
    | .loop b => fun _ _ _ ih η ds h q => (ih b η ds h q).bnd (evSeq ih (.loop b))
    | .rangeFunc f ps a b => fun P call _ _ η ds h q => (opd η f).bnd fun f => rfS P call ps a b η ds h q f
    | .exit id => fun _ _ _ _ η ds h q => .ok (.ext id η ds h, q)
    | .scope b => fun _ _ _ ih η ds h q => ih b η ds h q
    | .label _ => fun _ _ _ _ η ds h q => .ok (.nor η ds h, q)
    | .goto _ => fun _ _ _ _ _ _ _ _ => .no 132
    | .ret => fun _ _ _ _ η ds h q => .ok (.ret η ds h, q)
    | .refuse _ => fun _ _ _ _ _ _ _ _ => .no 132) : Program → Call → Option (Option V) → EvT → Env → V → H → Bool → O (R × Bool)) P call pn ih η ds h q
theorem evS_f : @evS = @evSF := by
  funext P call pn ih c η ds h q
  cases c <;> rfl
end
end Ex
