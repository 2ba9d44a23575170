import Derived.Test.YtgckmkiiheaeaaaGreatDoorPar2
import Derived.Deep.RegionHeld2
import Derived.Deep.LoopGhost
namespace Go.Proofs.YtgckmkiiheaeaaaGreatDoor
open Go.RowKit Lx Px
def APost (C : Ctx) (lo : Nat) (r : R) (h : Bool) (w : World) (e : Ending) (w' : World) : Prop :=
 (∃ kd tx nm ps kids k' ao cp, r = .ok [.mk kd tx nm ps kids] 1 k' ∧ e = .returned (.tuple #[.agg #[.int .i64 kd, .string ⟨tx.toArray⟩, .int .i64 nm, .int .i64 ps, .string ⟨#[]⟩, .int .i64 0, .slice ao kids.length cp], .bool true]) ∧ RowI w' lo w'.heap.size (.slice ao kids.length cp) kids ∧ PS w' C k' h ∧ w.grownBy w' (some C.b)) ∨
 (∃ k', r = .ok [] 0 k' ∧ e = .returned (.tuple #[.agg #[.int .i64 0, .string ⟨#[]⟩, .int .i64 0, .int .i64 0, .string ⟨#[]⟩, .int .i64 0, .slice none 0 0], .bool false]) ∧ PS w' C k' h ∧ w.grownBy w' (some C.b)) ∨ PBad C r w e w'
def FPost (C : Ctx) (lo : Nat) (r : R) (h : Bool) (w : World) (e : Ending) (w' : World) : Prop :=
 (∃ kd tx nm ps kids s k' ao cp, r = .ok [.mk kd tx nm ps kids] s k' ∧ e = .returned (.tuple #[.agg #[.int .i64 kd, .string ⟨tx.toArray⟩, .int .i64 nm, .int .i64 ps, .string ⟨#[]⟩, .int .i64 0, .slice ao kids.length cp], .bool (decide (s = 1))]) ∧ RowI w' lo w'.heap.size (.slice ao kids.length cp) kids ∧ PS w' C k' h ∧ w.grownBy w' (some C.b)) ∨ PBad C r w e w'
def tagS (s : Int) : List UInt8 := if s = 1 then [114, 101, 99, 118] else [115, 101, 110, 100]
def HPost (C : Ctx) (lo : Nat) (r : R) (h : Bool) (w : World) (e : Ending) (w' : World) : Prop :=
 (∃ l s k' ao cp, r = .ok l s k' ∧ e = .returned (.tuple #[.string ⟨(tagS s).toArray⟩, .slice ao l.length cp]) ∧ RowI w' lo w'.heap.size (.slice ao l.length cp) l ∧ PS w' C k' h ∧ w.grownBy w' (some C.b)) ∨ PBad C r w e w'
def CN (C : Ctx) (F : Nat) (j : Job) (args : Array Value) (m : Nat) : Prop := ∀ (h : Bool) (k : Nat) (w : World), PS w C k h → run C.ts m j h k ≠ .out → Calls Tryz.prog F args w (NPost C w.heap.size (run C.ts m j h k) h w)
def CNt (C : Ctx) (F : Nat) (j : Job) (args : Array Value) (m : Nat) : Prop := ∀ (h : Bool) (k : Nat) (w : World), PS w C k h → (tok C.ts k).kind ≠ 6 → run C.ts m j h k ≠ .out → Calls Tryz.prog F args w (NPost C w.heap.size (run C.ts m j h k) h w)
def CS (C : Ctx) (F : Nat) (j : Job) (args : Array Value) (m : Nat) : Prop := ∀ (h : Bool) (k : Nat) (w : World), PS w C k h → run C.ts m j h k ≠ .out → Calls Tryz.prog F args w (SPost C w.heap.size (run C.ts m j h k) h w)
def CSt (C : Ctx) (F : Nat) (j : Job) (args : Array Value) (m : Nat) : Prop := ∀ (h : Bool) (k : Nat) (w : World), PS w C k h → (tok C.ts k).kind ≠ 6 → run C.ts m j h k ≠ .out → Calls Tryz.prog F args w (SPost C w.heap.size (run C.ts m j h k) h w)
def CL (C : Ctx) (F : Nat) (j : Job) (args : Array Value) (m : Nat) : Prop := ∀ (h : Bool) (k : Nat) (w : World), PS w C k h → run C.ts m j h k ≠ .out → Calls Tryz.prog F args w (LPost C w.heap.size (run C.ts m j h k) h w)
def CLI (C : Ctx) (F : Nat) (j : Job) (args : Array Value) (m : Nat) (I : World → Prop) : Prop := ∀ (h : Bool) (k : Nat) (w : World), PS w C k h → I w → run C.ts m j h k ≠ .out → Calls Tryz.prog F args w (LPost C w.heap.size (run C.ts m j h k) h w)
def CLd (C : Ctx) (F : Nat) (j : Job) (args : Array Value) (kids : List Tree) (ao : Option Addr) (cp : Nat) (Post : Ctx → Nat → R → Bool → World → Ending → World → Prop) (m : Nat) : Prop := ∀ (h : Bool) (k : Nat) (w : World) (lo hi : Nat), PS w C k h → C.b < lo → hi ≤ w.heap.size → lo ≤ w.heap.size → RowI w lo hi (.slice ao kids.length cp) kids → run C.ts m j h k ≠ .out → Calls Tryz.prog F args w (Post C lo (run C.ts m j h k) h w)
abbrev nd0 : Obj := .cells #[.int .i64 0, .string ⟨#[]⟩, .int .i64 0, .int .i64 0, .string ⟨#[]⟩, .int .i64 0, .slice none 0 0] 24
abbrev NN (a b : Nat) : Prop := ¬ a = b ∧ ¬ b = a
abbrev nqC (a : Int) (b : ByteArray) (c d : Int) (e : Option Addr) (n m : Nat) : Obj := .cells #[.int .i64 a, .string b, .int .i64 c, .int .i64 d, .string ⟨#[]⟩, .int .i64 0, .slice e n m] 24
abbrev tkO (t : Tok) : Obj := .cells #[.int .i64 t.kind, .string ⟨t.text.toArray⟩, .int .i64 t.num, .int .i64 t.pos] 36
structure Con (C : Ctx) (m : Nat) : Prop where
 wtype : CN C 72 .wtype #[.pointer (some ⟨C.b, 0, none⟩)] m
 result : CN C 75 .result #[.pointer (some ⟨C.b, 0, none⟩)] m
 named : ∀ kd, CN C 59 (.named kd) #[.pointer (some ⟨C.b, 0, none⟩), .int .i64 kd] m
 listedT : CL C 73 (.listed .wtype) #[.pointer (some ⟨C.b, 0, none⟩), .func (.func 72) #[.pointer (some ⟨C.b, 0, none⟩)] #[]] m
 listedE : CL C 73 (.listed .expr) #[.pointer (some ⟨C.b, 0, none⟩), .func (.func 94) #[.pointer (some ⟨C.b, 0, none⟩)] #[]] m
 listedN : ∀ bx, CLI C 73 (.listed .named) #[.pointer (some ⟨C.b, 0, none⟩), .func (.func 74) #[] #[.pointer (some ⟨bx, 0, none⟩)]] m (fun w => BL w bx (.cells #[.pointer (some ⟨C.b, 0, none⟩)] 88) ∧ bx ≠ C.b)
 function : CL C 61 .function #[.pointer (some ⟨C.b, 0, none⟩)] m
 block : CN C 77 .block #[.pointer (some ⟨C.b, 0, none⟩)] m
 stmts : CL C 81 (.stmts []) #[.pointer (some ⟨C.b, 0, none⟩)] m
 stmt : CN C 84 .stmt #[.pointer (some ⟨C.b, 0, none⟩)] m
 varStmt : CNt C 85 .varStmt #[.pointer (some ⟨C.b, 0, none⟩)] m
 returnStmt : CNt C 89 .returnStmt #[.pointer (some ⟨C.b, 0, none⟩)] m
 callStmt : ∀ kd, CNt C 90 (.callStmt kd) #[.pointer (some ⟨C.b, 0, none⟩), .int .i64 kd] m
 labelled : CNt C 92 .labelled #[.pointer (some ⟨C.b, 0, none⟩)] m
 simple : CN C 93 .simple #[.pointer (some ⟨C.b, 0, none⟩)] m
 acting : ∀ kd tx nm ps kids s ao cp, CLd C 100 (.acting (.mk kd tx nm ps kids) s) #[.pointer (some ⟨C.b, 0, none⟩), .agg #[.int .i64 kd, .string ⟨tx.toArray⟩, .int .i64 nm, .int .i64 ps, .string ⟨#[]⟩, .int .i64 0, .slice ao kids.length cp], .int .i64 s] kids ao cp APost m
 ifStmt : CNt C 86 .ifStmt #[.pointer (some ⟨C.b, 0, none⟩)] m
 breakable : CN C 87 .breakable #[.pointer (some ⟨C.b, 0, none⟩)] m
 forStmt : CNt C 95 .forStmt #[.pointer (some ⟨C.b, 0, none⟩)] m
 forHead : CL C 105 .forHead #[.pointer (some ⟨C.b, 0, none⟩)] m
 forLead : ∀ (h : Bool) (k : Nat) (w : World), PS w C k h → run C.ts m .forLead h k ≠ .out → Calls Tryz.prog 114 #[.pointer (some ⟨C.b, 0, none⟩)] w (FPost C w.heap.size (run C.ts m .forLead h k) h w)
 switchStmt : CNt C 96 .switchStmt #[.pointer (some ⟨C.b, 0, none⟩)] m
 selectStmt : CNt C 97 .selectStmt #[.pointer (some ⟨C.b, 0, none⟩)] m
 clausesF : CL C 106 (.clauses false) #[.pointer (some ⟨C.b, 0, none⟩), .func (.func 107) #[.pointer (some ⟨C.b, 0, none⟩)] #[]] m
 clausesT : CL C 106 (.clauses true) #[.pointer (some ⟨C.b, 0, none⟩), .func (.func 108) #[.pointer (some ⟨C.b, 0, none⟩)] #[]] m
 clause : CN C 107 .clause #[.pointer (some ⟨C.b, 0, none⟩)] m
 clauseBlock : CN C 115 .clauseBlock #[.pointer (some ⟨C.b, 0, none⟩)] m
 comm : CN C 108 .comm #[.pointer (some ⟨C.b, 0, none⟩)] m
 commHead : ∀ (h : Bool) (k : Nat) (w : World), PS w C k h → run C.ts m .commHead h k ≠ .out → Calls Tryz.prog 116 #[.pointer (some ⟨C.b, 0, none⟩)] w (HPost C w.heap.size (run C.ts m .commHead h k) h w)
 expr : CN C 94 .expr #[.pointer (some ⟨C.b, 0, none⟩)] m
 op : ∀ least, 1 ≤ least → CN C 103 (.op least) #[.pointer (some ⟨C.b, 0, none⟩), .int .i64 least] m
 opOf : ∀ kd tx nm ps kids least ao cp, 1 ≤ least → CLd C 113 (.opOf (.mk kd tx nm ps kids) least) #[.pointer (some ⟨C.b, 0, none⟩), .agg #[.int .i64 kd, .string ⟨tx.toArray⟩, .int .i64 nm, .int .i64 ps, .string ⟨#[]⟩, .int .i64 0, .slice ao kids.length cp], .int .i64 least] kids ao cp NPost m
 unary : CN C 112 .unary #[.pointer (some ⟨C.b, 0, none⟩)] m
 shaped : CS C 99 .shaped #[.pointer (some ⟨C.b, 0, none⟩)] m
 primary : CS C 98 .primary #[.pointer (some ⟨C.b, 0, none⟩)] m
 args : CL C 110 .args #[.pointer (some ⟨C.b, 0, none⟩)] m
 bracketed : ∀ kd tx nm ps kids pos ao cp, CLd C 111 (.bracketed (.mk kd tx nm ps kids) pos) #[.pointer (some ⟨C.b, 0, none⟩), .agg #[.int .i64 kd, .string ⟨tx.toArray⟩, .int .i64 nm, .int .i64 ps, .string ⟨#[]⟩, .int .i64 0, .slice ao kids.length cp], .int .i64 pos] kids ao cp SPost m
 operand : CS C 109 .operand #[.pointer (some ⟨C.b, 0, none⟩)] m
 wordOperand : CSt C 117 .wordOperand #[.pointer (some ⟨C.b, 0, none⟩)] m
 builtinM : CNt C 120 (.builtin .makeArgs) #[.pointer (some ⟨C.b, 0, none⟩), .func (.func 121) #[.pointer (some ⟨C.b, 0, none⟩)] #[]] m
 builtinN : CNt C 120 (.builtin .newArgs) #[.pointer (some ⟨C.b, 0, none⟩), .func (.func 122) #[.pointer (some ⟨C.b, 0, none⟩)] #[]] m
 builtinA : CNt C 120 (.builtin .args) #[.pointer (some ⟨C.b, 0, none⟩), .func (.func 110) #[.pointer (some ⟨C.b, 0, none⟩)] #[]] m
 makeArgs : CL C 121 .makeArgs #[.pointer (some ⟨C.b, 0, none⟩)] m
 newArgs : CL C 122 .newArgs #[.pointer (some ⟨C.b, 0, none⟩)] m
 markOperand : CN C 118 .markOperand #[.pointer (some ⟨C.b, 0, none⟩)] m
 bracedI : CL C 123 (.braced .initial) #[.pointer (some ⟨C.b, 0, none⟩), .func (.func 124) #[.pointer (some ⟨C.b, 0, none⟩)] #[]] m
 bracedE : CL C 123 (.braced .expr) #[.pointer (some ⟨C.b, 0, none⟩), .func (.func 94) #[.pointer (some ⟨C.b, 0, none⟩)] #[]] m
 initial : CN C 124 .initial #[.pointer (some ⟨C.b, 0, none⟩)] m
 decl : CN C 40 .decl #[.pointer (some ⟨C.b, 0, none⟩)] m
 typeDecl : CNt C 57 .typeDecl #[.pointer (some ⟨C.b, 0, none⟩)] m
def All (C : Ctx) (n : Nat) : Prop := ∀ m, m ≤ n → Con C m
theorem All.at {C : Ctx} {n : Nat} (h : All C n) : Con C n := h n (Nat.le_refl n)
theorem sign_ne {ts : List Tok} {k : Nat} {a : UInt8} {l : List UInt8} (h : sign ts k = a :: l) : (tok ts k).kind ≠ 6 := by
 intro h6
 unfold sign at h
 rw [if_neg (by omega)] at h
 cases h
theorem h3a {s a b c : List UInt8} (h : s = a) : ([a, b, c].contains s = true) = True := by simp [h]
theorem h3b {s a b c : List UInt8} (h : s = b) : ([a, b, c].contains s = true) = True := by simp [h]
theorem h3c {s a b c : List UInt8} (h : s = c) : ([a, b, c].contains s = true) = True := by simp [h]
theorem h3n {s a b c : List UInt8} (h1 : ¬ s = a) (h2 : ¬ s = b) (h3 : ¬ s = c) : ([a, b, c].contains s = true) = False := by simp [h1, h2, h3]
theorem h2a {s a b : List UInt8} (h : s = a) : ([a, b].contains s = true) = True := by simp [h]
theorem h2b {s a b : List UInt8} (h : s = b) : ([a, b].contains s = true) = True := by simp [h]
theorem h2n {s a b : List UInt8} (h1 : ¬ s = a) (h2 : ¬ s = b) : ([a, b].contains s = true) = False := by simp [h1, h2]
theorem npost_bad {C : Ctx} {lo : Nat} {r : R} {h : Bool} {w w' : World} {p : Int} {rule : ByteArray} (hr : r = .bad p) (hg : w.grownBy w' (some C.b)) : NPost C lo r h w (.panicked (brk rule p)) w' := .inr ⟨p, rule, hr, rfl, hg⟩
theorem spost_bad {C : Ctx} {lo : Nat} {r : R} {h : Bool} {w w' : World} {p : Int} {rule : ByteArray} (hr : r = .bad p) (hg : w.grownBy w' (some C.b)) : SPost C lo r h w (.panicked (brk rule p)) w' := .inr ⟨p, rule, hr, rfl, hg⟩
theorem lpost_bad {C : Ctx} {lo : Nat} {r : R} {h : Bool} {w w' : World} {p : Int} {rule : ByteArray} (hr : r = .bad p) (hg : w.grownBy w' (some C.b)) : LPost C lo r h w (.panicked (brk rule p)) w' := .inr ⟨p, rule, hr, rfl, hg⟩
theorem apost_bad {C : Ctx} {lo : Nat} {r : R} {h : Bool} {w w' : World} {p : Int} {rule : ByteArray} (hr : r = .bad p) (hg : w.grownBy w' (some C.b)) : APost C lo r h w (.panicked (brk rule p)) w' := .inr (.inr ⟨p, rule, hr, rfl, hg⟩)
theorem fpost_bad {C : Ctx} {lo : Nat} {r : R} {h : Bool} {w w' : World} {p : Int} {rule : ByteArray} (hr : r = .bad p) (hg : w.grownBy w' (some C.b)) : FPost C lo r h w (.panicked (brk rule p)) w' := .inr ⟨p, rule, hr, rfl, hg⟩
theorem hpost_bad {C : Ctx} {lo : Nat} {r : R} {h : Bool} {w w' : World} {p : Int} {rule : ByteArray} (hr : r = .bad p) (hg : w.grownBy w' (some C.b)) : HPost C lo r h w (.panicked (brk rule p)) w' := .inr ⟨p, rule, hr, rfl, hg⟩
theorem npost_ok {C : Ctx} {lo hi : Nat} {r : R} {h : Bool} {w w' : World} {kd nm ps s : Int} {tx : List UInt8} {kids : List Tree} {k' : Nat} {kv : Value} (hr : r = .ok [.mk kd tx nm ps kids] s k') (hrow : RowI w' lo hi kv kids) (hhi : hi ≤ w'.heap.size) (p : PS w' C k' h) (hg : w.grownBy w' (some C.b)) :
 NPost C lo r h w (.returned (.agg #[.int .i64 kd, .string ⟨tx.toArray⟩, .int .i64 nm, .int .i64 ps, .string ⟨#[]⟩, .int .i64 0, kv])) w' := by
 obtain ⟨ao, cp, rfl⟩ := hrow.form
 exact .inl ⟨kd, tx, nm, ps, kids, s, k', ao, cp, hr, rfl, hrow.wide (Nat.le_refl _) hhi, p, hg⟩
theorem spost_ok {C : Ctx} {lo hi : Nat} {r : R} {h : Bool} {w w' : World} {kd nm ps s : Int} {tx : List UInt8} {kids : List Tree} {k' : Nat} {kv : Value} (hr : r = .ok [.mk kd tx nm ps kids] s k') (hrow : RowI w' lo hi kv kids) (hhi : hi ≤ w'.heap.size) (p : PS w' C k' h) (hg : w.grownBy w' (some C.b)) :
 SPost C lo r h w (.returned (.tuple #[.agg #[.int .i64 kd, .string ⟨tx.toArray⟩, .int .i64 nm, .int .i64 ps, .string ⟨#[]⟩, .int .i64 0, kv], .int .i64 s])) w' := by
 obtain ⟨ao, cp, rfl⟩ := hrow.form
 exact .inl ⟨kd, tx, nm, ps, kids, s, k', ao, cp, hr, rfl, hrow.wide (Nat.le_refl _) hhi, p, hg⟩
theorem lpost_ok {C : Ctx} {lo hi : Nat} {r : R} {h : Bool} {w w' : World} {s : Int} {l : List Tree} {k' : Nat} {kv : Value} (hr : r = .ok l s k') (hrow : RowI w' lo hi kv l) (hhi : hi ≤ w'.heap.size) (p : PS w' C k' h) (hg : w.grownBy w' (some C.b)) :
 LPost C lo r h w (.returned kv) w' := by
 obtain ⟨ao, cp, rfl⟩ := hrow.form
 exact .inl ⟨l, s, k', ao, cp, hr, rfl, hrow.wide (Nat.le_refl _) hhi, p, hg⟩
end Go.Proofs.YtgckmkiiheaeaaaGreatDoor
