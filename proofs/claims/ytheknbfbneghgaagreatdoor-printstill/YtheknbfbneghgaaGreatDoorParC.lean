import Derived.Test.YtheknbfbneghgaaGreatDoorPar2
import Derived.Deep.RegionHeld2
import Derived.Deep.LoopGhost
set_option maxRecDepth 100000
namespace Go.Proofs.YtheknbfbneghgaaGreatDoor
open Go.RowKit Lx Px
def APost (C : Ctx) (lo : Nat) (r : R) (h : Bool) (w : World) (e : Ending) (w' : World) : Prop :=
 (∃ kd tx nm ps kids k' ao cp, r = .ok [.mk kd tx nm ps kids] 1 k' ∧ e = .returned (.tuple #[.agg #[.int .i64 kd, .string ⟨tx.toArray⟩, .int .i64 nm, .int .i64 ps, .string ⟨#[]⟩, .int .i64 0, .slice ao kids.length cp], .bool true]) ∧ zq w' lo w'.heap.size (.slice ao kids.length cp) kids ∧ PS w' C k' h ∧ w.grownBy w' (some C.b)) ∨
 (∃ k', r = .ok [] 0 k' ∧ e = .returned (.tuple #[.agg #[.int .i64 0, .string ⟨#[]⟩, .int .i64 0, .int .i64 0, .string ⟨#[]⟩, .int .i64 0, .slice none 0 0], .bool false]) ∧ PS w' C k' h ∧ w.grownBy w' (some C.b)) ∨ PBad C r w e w'
def FPost (C : Ctx) (lo : Nat) (r : R) (h : Bool) (w : World) (e : Ending) (w' : World) : Prop :=
 (∃ kd tx nm ps kids s k' ao cp, r = .ok [.mk kd tx nm ps kids] s k' ∧ e = .returned (.tuple #[.agg #[.int .i64 kd, .string ⟨tx.toArray⟩, .int .i64 nm, .int .i64 ps, .string ⟨#[]⟩, .int .i64 0, .slice ao kids.length cp], .bool (decide (s = 1))]) ∧ zq w' lo w'.heap.size (.slice ao kids.length cp) kids ∧ PS w' C k' h ∧ w.grownBy w' (some C.b)) ∨ PBad C r w e w'
def tagS (s : Int) : List UInt8 := if s = 1 then [114, 101, 99, 118] else [115, 101, 110, 100]
def HPost (C : Ctx) (lo : Nat) (r : R) (h : Bool) (w : World) (e : Ending) (w' : World) : Prop :=
 (∃ l s k' ao cp, r = .ok l s k' ∧ e = .returned (.tuple #[.string ⟨(tagS s).toArray⟩, .slice ao l.length cp]) ∧ zq w' lo w'.heap.size (.slice ao l.length cp) l ∧ PS w' C k' h ∧ w.grownBy w' (some C.b)) ∨ PBad C r w e w'
def CN (C : Ctx) (F : Nat) (j : Job) (args : Array Value) (m : Nat) : Prop := ∀ (h : Bool) (k : Nat) (w : World), PS w C k h → run C.ts m j h k ≠ .out → Calls Tryz.prog F args w (NPost C w.heap.size (run C.ts m j h k) h w)
def CNt (C : Ctx) (F : Nat) (j : Job) (args : Array Value) (m : Nat) : Prop := ∀ (h : Bool) (k : Nat) (w : World), PS w C k h → (zp C.ts k).kind ≠ 6 → run C.ts m j h k ≠ .out → Calls Tryz.prog F args w (NPost C w.heap.size (run C.ts m j h k) h w)
def CS (C : Ctx) (F : Nat) (j : Job) (args : Array Value) (m : Nat) : Prop := ∀ (h : Bool) (k : Nat) (w : World), PS w C k h → run C.ts m j h k ≠ .out → Calls Tryz.prog F args w (SPost C w.heap.size (run C.ts m j h k) h w)
def CSt (C : Ctx) (F : Nat) (j : Job) (args : Array Value) (m : Nat) : Prop := ∀ (h : Bool) (k : Nat) (w : World), PS w C k h → (zp C.ts k).kind ≠ 6 → run C.ts m j h k ≠ .out → Calls Tryz.prog F args w (SPost C w.heap.size (run C.ts m j h k) h w)
def CL (C : Ctx) (F : Nat) (j : Job) (args : Array Value) (m : Nat) : Prop := ∀ (h : Bool) (k : Nat) (w : World), PS w C k h → run C.ts m j h k ≠ .out → Calls Tryz.prog F args w (LPost C w.heap.size (run C.ts m j h k) h w)
def CLI (C : Ctx) (F : Nat) (j : Job) (args : Array Value) (m : Nat) (I : World → Prop) : Prop := ∀ (h : Bool) (k : Nat) (w : World), PS w C k h → I w → run C.ts m j h k ≠ .out → Calls Tryz.prog F args w (LPost C w.heap.size (run C.ts m j h k) h w)
def CLd (C : Ctx) (F : Nat) (j : Job) (args : Array Value) (kids : List Tree) (ao : Option Addr) (cp : Nat) (Post : Ctx → Nat → R → Bool → World → Ending → World → Prop) (m : Nat) : Prop := ∀ (h : Bool) (k : Nat) (w : World) (lo hi : Nat), PS w C k h → C.b < lo → hi ≤ w.heap.size → lo ≤ w.heap.size → zq w lo hi (.slice ao kids.length cp) kids → run C.ts m j h k ≠ .out → Calls Tryz.prog F args w (Post C lo (run C.ts m j h k) h w)
abbrev yA : Obj := .cells #[.int .i64 0, .string ⟨#[]⟩, .int .i64 0, .int .i64 0, .string ⟨#[]⟩, .int .i64 0, .slice none 0 0] 25
abbrev NN (a b : Nat) : Prop := ¬ a = b ∧ ¬ b = a
abbrev yE (a : Int) (b : ByteArray) (c d : Int) (e : Option Addr) (n m : Nat) : Obj := .cells #[.int .i64 a, .string b, .int .i64 c, .int .i64 d, .string ⟨#[]⟩, .int .i64 0, .slice e n m] 25
abbrev tkO (t : Tok) : Obj := .cells #[.int .i64 t.kind, .string ⟨t.text.toArray⟩, .int .i64 t.num, .int .i64 t.pos] 85
structure Con (C : Ctx) (m : Nat) : Prop where
 wtype : CN C 76 .wtype #[.pointer (some ⟨C.b, 0, none⟩)] m
 result : CN C 79 .result #[.pointer (some ⟨C.b, 0, none⟩)] m
 named : ∀ kd, CN C 56 (.named kd) #[.pointer (some ⟨C.b, 0, none⟩), .int .i64 kd] m
 listedT : CL C 77 (.listed .wtype) #[.pointer (some ⟨C.b, 0, none⟩), .func (.func 76) #[.pointer (some ⟨C.b, 0, none⟩)] #[]] m
 listedE : CL C 77 (.listed .expr) #[.pointer (some ⟨C.b, 0, none⟩), .func (.func 128) #[.pointer (some ⟨C.b, 0, none⟩)] #[]] m
 listedN : ∀ bx, CLI C 77 (.listed .named) #[.pointer (some ⟨C.b, 0, none⟩), .func (.func 78) #[] #[.pointer (some ⟨bx, 0, none⟩)]] m (fun w => BL w bx (.cells #[.pointer (some ⟨C.b, 0, none⟩)] 86) ∧ bx ≠ C.b)
 function : CL C 58 .function #[.pointer (some ⟨C.b, 0, none⟩)] m
 block : CN C 81 .block #[.pointer (some ⟨C.b, 0, none⟩)] m
 stmts : CL C 91 (.stmts []) #[.pointer (some ⟨C.b, 0, none⟩)] m
 stmt : CN C 101 .stmt #[.pointer (some ⟨C.b, 0, none⟩)] m
 varStmt : CNt C 114 .varStmt #[.pointer (some ⟨C.b, 0, none⟩)] m
 returnStmt : CNt C 118 .returnStmt #[.pointer (some ⟨C.b, 0, none⟩)] m
 callStmt : ∀ kd, CNt C 119 (.callStmt kd) #[.pointer (some ⟨C.b, 0, none⟩), .int .i64 kd] m
 labelled : CNt C 121 .labelled #[.pointer (some ⟨C.b, 0, none⟩)] m
 simple : CN C 122 .simple #[.pointer (some ⟨C.b, 0, none⟩)] m
 acting : ∀ kd tx nm ps kids s ao cp, CLd C 134 (.acting (.mk kd tx nm ps kids) s) #[.pointer (some ⟨C.b, 0, none⟩), .agg #[.int .i64 kd, .string ⟨tx.toArray⟩, .int .i64 nm, .int .i64 ps, .string ⟨#[]⟩, .int .i64 0, .slice ao kids.length cp], .int .i64 s] kids ao cp APost m
 ifStmt : CNt C 115 .ifStmt #[.pointer (some ⟨C.b, 0, none⟩)] m
 breakable : CN C 116 .breakable #[.pointer (some ⟨C.b, 0, none⟩)] m
 forStmt : CNt C 129 .forStmt #[.pointer (some ⟨C.b, 0, none⟩)] m
 forHead : CL C 140 .forHead #[.pointer (some ⟨C.b, 0, none⟩)] m
 forLead : ∀ (h : Bool) (k : Nat) (w : World), PS w C k h → run C.ts m .forLead h k ≠ .out → Calls Tryz.prog 153 #[.pointer (some ⟨C.b, 0, none⟩)] w (FPost C w.heap.size (run C.ts m .forLead h k) h w)
 switchStmt : CNt C 130 .switchStmt #[.pointer (some ⟨C.b, 0, none⟩)] m
 selectStmt : CNt C 131 .selectStmt #[.pointer (some ⟨C.b, 0, none⟩)] m
 clausesF : CL C 141 (.clauses false) #[.pointer (some ⟨C.b, 0, none⟩), .func (.func 142) #[.pointer (some ⟨C.b, 0, none⟩)] #[]] m
 clausesT : CL C 141 (.clauses true) #[.pointer (some ⟨C.b, 0, none⟩), .func (.func 143) #[.pointer (some ⟨C.b, 0, none⟩)] #[]] m
 clause : CN C 142 .clause #[.pointer (some ⟨C.b, 0, none⟩)] m
 clauseBlock : CN C 154 .clauseBlock #[.pointer (some ⟨C.b, 0, none⟩)] m
 comm : CN C 143 .comm #[.pointer (some ⟨C.b, 0, none⟩)] m
 commHead : ∀ (h : Bool) (k : Nat) (w : World), PS w C k h → run C.ts m .commHead h k ≠ .out → Calls Tryz.prog 155 #[.pointer (some ⟨C.b, 0, none⟩)] w (HPost C w.heap.size (run C.ts m .commHead h k) h w)
 expr : CN C 128 .expr #[.pointer (some ⟨C.b, 0, none⟩)] m
 op : ∀ least, 1 ≤ least → CN C 138 (.op least) #[.pointer (some ⟨C.b, 0, none⟩), .int .i64 least] m
 opOf : ∀ kd tx nm ps kids least ao cp, 1 ≤ least → CLd C 152 (.opOf (.mk kd tx nm ps kids) least) #[.pointer (some ⟨C.b, 0, none⟩), .agg #[.int .i64 kd, .string ⟨tx.toArray⟩, .int .i64 nm, .int .i64 ps, .string ⟨#[]⟩, .int .i64 0, .slice ao kids.length cp], .int .i64 least] kids ao cp NPost m
 unary : CN C 147 .unary #[.pointer (some ⟨C.b, 0, none⟩)] m
 shaped : CS C 133 .shaped #[.pointer (some ⟨C.b, 0, none⟩)] m
 primary : CS C 132 .primary #[.pointer (some ⟨C.b, 0, none⟩)] m
 args : CL C 145 .args #[.pointer (some ⟨C.b, 0, none⟩)] m
 bracketed : ∀ kd tx nm ps kids pos ao cp, CLd C 146 (.bracketed (.mk kd tx nm ps kids) pos) #[.pointer (some ⟨C.b, 0, none⟩), .agg #[.int .i64 kd, .string ⟨tx.toArray⟩, .int .i64 nm, .int .i64 ps, .string ⟨#[]⟩, .int .i64 0, .slice ao kids.length cp], .int .i64 pos] kids ao cp SPost m
 operand : CS C 144 .operand #[.pointer (some ⟨C.b, 0, none⟩)] m
 wordOperand : CSt C 156 .wordOperand #[.pointer (some ⟨C.b, 0, none⟩)] m
 builtinM : CNt C 164 (.builtin .makeArgs) #[.pointer (some ⟨C.b, 0, none⟩), .func (.func 165) #[.pointer (some ⟨C.b, 0, none⟩)] #[]] m
 builtinN : CNt C 164 (.builtin .newArgs) #[.pointer (some ⟨C.b, 0, none⟩), .func (.func 166) #[.pointer (some ⟨C.b, 0, none⟩)] #[]] m
 builtinA : CNt C 164 (.builtin .args) #[.pointer (some ⟨C.b, 0, none⟩), .func (.func 145) #[.pointer (some ⟨C.b, 0, none⟩)] #[]] m
 makeArgs : CL C 165 .makeArgs #[.pointer (some ⟨C.b, 0, none⟩)] m
 newArgs : CL C 166 .newArgs #[.pointer (some ⟨C.b, 0, none⟩)] m
 markOperand : CN C 157 .markOperand #[.pointer (some ⟨C.b, 0, none⟩)] m
 bracedI : CL C 167 (.braced .initial) #[.pointer (some ⟨C.b, 0, none⟩), .func (.func 168) #[.pointer (some ⟨C.b, 0, none⟩)] #[]] m
 bracedE : CL C 167 (.braced .expr) #[.pointer (some ⟨C.b, 0, none⟩), .func (.func 128) #[.pointer (some ⟨C.b, 0, none⟩)] #[]] m
 initial : CN C 168 .initial #[.pointer (some ⟨C.b, 0, none⟩)] m
 decl : CN C 31 .decl #[.pointer (some ⟨C.b, 0, none⟩)] m
 typeDecl : CNt C 54 .typeDecl #[.pointer (some ⟨C.b, 0, none⟩)] m
def All (C : Ctx) (n : Nat) : Prop := ∀ m, m ≤ n → Con C m
theorem All.at {C : Ctx} {n : Nat} (h : All C n) : Con C n := h n (Nat.le_refl n)
theorem sign_ne {ts : List Tok} {k : Nat} {a : UInt8} {l : List UInt8} (h : yI ts k = a :: l) : (zp ts k).kind ≠ 6 := by
 intro h6
 unfold yI at h
 rw [if_neg om] at h
 cases h
theorem h3a {s a b c : List UInt8} (h : s = a) : ([a, b, c].contains s = true) = True := by simp [h]
theorem h3b {s a b c : List UInt8} (h : s = b) : ([a, b, c].contains s = true) = True := by simp [h]
theorem h3c {s a b c : List UInt8} (h : s = c) : ([a, b, c].contains s = true) = True := by simp [h]
theorem h3n {s a b c : List UInt8} (h1 : ¬ s = a) (h2 : ¬ s = b) (h3 : ¬ s = c) : ([a, b, c].contains s = true) = False := by simp [h1, h2, h3]
theorem h2a {s a b : List UInt8} (h : s = a) : ([a, b].contains s = true) = True := by simp [h]
theorem h2b {s a b : List UInt8} (h : s = b) : ([a, b].contains s = true) = True := by simp [h]
theorem h2n {s a b : List UInt8} (h1 : ¬ s = a) (h2 : ¬ s = b) : ([a, b].contains s = true) = False := by simp [h1, h2]
theorem zs {C : Ctx} {lo : Nat} {r : R} {h : Bool} {w w' : World} {p : Int} {rule : ByteArray} (hr : r = .bad p) (hg : w.grownBy w' (some C.b)) : NPost C lo r h w (.panicked (brk rule p)) w' := .inr ⟨p, rule, hr, rfl, hg⟩
theorem yj {C : Ctx} {lo : Nat} {r : R} {h : Bool} {w w' : World} {p : Int} {rule : ByteArray} (hr : r = .bad p) (hg : w.grownBy w' (some C.b)) : SPost C lo r h w (.panicked (brk rule p)) w' := .inr ⟨p, rule, hr, rfl, hg⟩
theorem yK {C : Ctx} {lo : Nat} {r : R} {h : Bool} {w w' : World} {p : Int} {rule : ByteArray} (hr : r = .bad p) (hg : w.grownBy w' (some C.b)) : LPost C lo r h w (.panicked (brk rule p)) w' := .inr ⟨p, rule, hr, rfl, hg⟩
theorem apost_bad {C : Ctx} {lo : Nat} {r : R} {h : Bool} {w w' : World} {p : Int} {rule : ByteArray} (hr : r = .bad p) (hg : w.grownBy w' (some C.b)) : APost C lo r h w (.panicked (brk rule p)) w' := .inr (.inr ⟨p, rule, hr, rfl, hg⟩)
theorem fpost_bad {C : Ctx} {lo : Nat} {r : R} {h : Bool} {w w' : World} {p : Int} {rule : ByteArray} (hr : r = .bad p) (hg : w.grownBy w' (some C.b)) : FPost C lo r h w (.panicked (brk rule p)) w' := .inr ⟨p, rule, hr, rfl, hg⟩
theorem hpost_bad {C : Ctx} {lo : Nat} {r : R} {h : Bool} {w w' : World} {p : Int} {rule : ByteArray} (hr : r = .bad p) (hg : w.grownBy w' (some C.b)) : HPost C lo r h w (.panicked (brk rule p)) w' := .inr ⟨p, rule, hr, rfl, hg⟩
theorem yB {C : Ctx} {lo hi : Nat} {r : R} {h : Bool} {w w' : World} {kd nm ps s : Int} {tx : List UInt8} {kids : List Tree} {k' : Nat} {kv : Value} (hr : r = .ok [.mk kd tx nm ps kids] s k') (hrow : zq w' lo hi kv kids) (hhi : hi ≤ w'.heap.size) (p : PS w' C k' h) (hg : w.grownBy w' (some C.b)) :
 NPost C lo r h w (.returned (.agg #[.int .i64 kd, .string ⟨tx.toArray⟩, .int .i64 nm, .int .i64 ps, .string ⟨#[]⟩, .int .i64 0, kv])) w' := by
 obtain ⟨ao, cp, rfl⟩ := hrow.form
 exact .inl ⟨kd, tx, nm, ps, kids, s, k', ao, cp, hr, rfl, hrow.wide lr hhi, p, hg⟩
theorem yd {C : Ctx} {lo hi : Nat} {r : R} {h : Bool} {w w' : World} {kd nm ps s : Int} {tx : List UInt8} {kids : List Tree} {k' : Nat} {kv : Value} (hr : r = .ok [.mk kd tx nm ps kids] s k') (hrow : zq w' lo hi kv kids) (hhi : hi ≤ w'.heap.size) (p : PS w' C k' h) (hg : w.grownBy w' (some C.b)) :
 SPost C lo r h w (.returned (.tuple #[.agg #[.int .i64 kd, .string ⟨tx.toArray⟩, .int .i64 nm, .int .i64 ps, .string ⟨#[]⟩, .int .i64 0, kv], .int .i64 s])) w' := by
 obtain ⟨ao, cp, rfl⟩ := hrow.form
 exact .inl ⟨kd, tx, nm, ps, kids, s, k', ao, cp, hr, rfl, hrow.wide lr hhi, p, hg⟩
theorem yg {C : Ctx} {lo hi : Nat} {r : R} {h : Bool} {w w' : World} {s : Int} {l : List Tree} {k' : Nat} {kv : Value} (hr : r = .ok l s k') (hrow : zq w' lo hi kv l) (hhi : hi ≤ w'.heap.size) (p : PS w' C k' h) (hg : w.grownBy w' (some C.b)) :
 LPost C lo r h w (.returned kv) w' := by
 obtain ⟨ao, cp, rfl⟩ := hrow.form
 exact .inl ⟨l, s, k', ao, cp, hr, rfl, hrow.wide lr hhi, p, hg⟩
end Go.Proofs.YtheknbfbneghgaaGreatDoor
