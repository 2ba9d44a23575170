/- Programs, plainly; programs in memory: rows of items, each a few cells; what a call leaves as it was. -/
import Derived.Test.YtipnefogflpkhaaDoorChecked
import Derived.WalkKit
import Derived.WalkSpells
import Derived.WalkLawsBesides
import Derived.Deep.QuietTactic
import Derived.BigQuiet
import Derived.Deep.AppendLies
import Derived.Deep.AppendSrc
import Derived.Lib.ItoaLen
namespace Go.Proofs.YtipnefogflpkhaaDoor
open Go.RowKit
def okN (z : Int) : Prop := -9223372036854775808 ≤ z ∧ z ≤ 9223372036854775807
structure Ins where
  op : Int
  a : Int
  b : Int
  c : Int
  d : Int
  list : List Int
structure Fnc where
  name : ByteArray
  refs : List Bool
  params : Int
  captures : Int
  result : Bool
  code : List Ins
structure Prg where
  texts : List ByteArray
  globals : List Bool
  structs : List (List Bool)
  funcs : List Fnc
  main : Int
theorem hide {p : Prop} (h : p) : Hid p := h
theorem unhide {p : Prop} (h : Hid p) : p := h
theorem ret_bool {a b : Bool} (h : a = b) : Ending.returned (.bool a) = .returned (.bool b) := by rw [h]
theorem ret_int {k : IntKind} {a b : Int} (h : a = b) : Ending.returned (.int k a) = .returned (.int k b) := by rw [h]

/-- All that was there is as it was, but for blocks of K. -/
structure Fr (K : Nat → Prop) (w w' : World) : Prop where
  os : w'.os = w.os
  tape : w'.tape = w.tape
  output : w'.output = w.output
  size : w.heap.size ≤ w'.heap.size
  block : ∀ k, k < w.heap.size → ¬ K k → w'.heap[k]? = w.heap[k]?
theorem Fr.refl (K : Nat → Prop) (w : World) : Fr K w w := ⟨rfl, rfl, rfl, Nat.le_refl _, fun _ _ _ => rfl⟩
theorem Fr.trans {K : Nat → Prop} {a b c : World} (h : Fr K a b) (k : Fr K b c) : Fr K a c :=
  ⟨k.os.trans h.os, k.tape.trans h.tape, k.output.trans h.output, Nat.le_trans h.size k.size, fun i hi hk => (k.block i (Nat.lt_of_lt_of_le hi h.size) hk).trans (h.block i hi hk)⟩
theorem Fr.mono {K L : Nat → Prop} {a b : World} (h : Fr K a b) (hk : ∀ i, K i → L i) : Fr L a b :=
  ⟨h.os, h.tape, h.output, h.size, fun i hi hl => h.block i hi fun x => hl (hk i x)⟩
theorem Fr.drew {K : Nat → Prop} {a w : World} (h : Fr K a w) : Fr K a w.drew := ⟨h.os, h.tape, h.output, h.size, h.block⟩
theorem Fr.drewN {K : Nat → Prop} {a w : World} (h : Fr K a w) (n : Nat) : Fr K a (w.drewN n) := ⟨h.os, h.tape, h.output, h.size, h.block⟩
theorem Fr.alloc {K : Nat → Prop} {a w : World} (h : Fr K a w) (o : Obj) : Fr K a (w.alloc o) :=
  h.trans ⟨rfl, rfl, rfl, by simp, fun k hk _ => Below.heap_alloc _ _ _ hk⟩
theorem Fr.setCell {K : Nat → Prop} {a w : World} (h : Fr K a w) {p : Addr} (hp : K p.block) (u : Value) : Fr K a (w.setCell p u) :=
  h.trans ⟨rfl, rfl, rfl, by simp [World.setCell], fun k _ hk => Below.heap_setCell _ _ _ _ (fun e => hk (e ▸ hp))⟩
theorem Fr.below {K : Nat → Prop} {w w' : World} {n : Nat} (h : Fr K w w') (hn : n ≤ w.heap.size) (hk : ∀ k, K k → n ≤ k) : Below n w w' :=
  ⟨h.os, h.tape, h.output, h.size, fun k hkn => h.block k (by omega) fun x => by have := hk k x; omega⟩
theorem Fr.up {K L : Nat → Prop} {w0 w w' : World} (h : Fr L w0 w) (k : Fr K w w') (hk : ∀ b, K b → L b ∨ w0.heap.size ≤ b) : Fr L w0 w' :=
  ⟨k.os.trans h.os, k.tape.trans h.tape, k.output.trans h.output, Nat.le_trans h.size k.size, fun i hi hl => (k.block i (Nat.lt_of_lt_of_le hi h.size) (fun x => by rcases hk i x with h1 | h1; exact hl h1; omega)).trans (h.block i hi hl)⟩
theorem Fr.grown {w w' : World} {row : Option Nat} (h : w.grownBy w' row) : Fr (fun k => some k = row) w w' := ⟨h.os, h.tape, h.output, h.size, fun k hk hn => h.block k hk hn⟩
theorem Fr.cell {K : Nat → Prop} {w w' : World} (h : Fr K w w') {a : Addr} {v : Value} (hc : w.cell? a = some v) (hk : ¬ K a.block) : w'.cell? a = some v :=
  (World.cell?_of_block (h.block a.block (World.block_lt_of_cell? w a hc) hk)).trans hc
theorem Fr.frozen {K : Nat → Prop} {w w' : World} (h : Fr K w w') {a : Addr} {b : Bool} (hl : a.block < w.heap.size) (hc : w.frozen? a = b) (hk : ¬ K a.block) : w'.frozen? a = b :=
  (World.frozen?_of_block (h.block a.block hl hk)).trans hc

theorem own_low {w : World} {base base' e size n : Nat} {v : Value} {xs : List Value} (hb : base' ≤ base) (h : w.ownsRow base e size v n xs) : w.ownsRow base' e size v n xs := by
  refine ⟨h.1, ?_⟩
  rcases h.2 with h2 | ⟨g, cap, cur, e1, e2, r⟩
  · exact .inl h2
  · exact .inr ⟨g, cap, cur, e1, Nat.le_trans hb e2, r⟩
theorem own_blk {w w' : World} {base e size n : Nat} {v : Value} {xs : List Value} (h : w.ownsRow base e size v n xs) (hb : ∀ g, v.ownBlock = some g → w'.heap[g]? = w.heap[g]?) : w'.ownsRow base e size v n xs := by
  refine ⟨h.1, ?_⟩
  rcases h.2 with h2 | ⟨g, cap, cur, rfl, h3, h4, h5⟩
  · exact .inl h2
  · exact .inr ⟨g, cap, cur, rfl, h3, (hb g rfl).trans h4, h5⟩
theorem own_form {w : World} {base e size n : Nat} {v : Value} {xs : List Value} (h : w.ownsRow base e size v n xs) : ∃ ao cp, v = .slice ao n cp ∧ (0 < n → ∃ g, ao = some ⟨g, 0, none⟩) := by
  rcases h.2 with ⟨h2, h3⟩ | ⟨g, cap, cur, h2, _⟩
  · exact ⟨none, 0, by rw [h2, h3], fun hn => by omega⟩
  · exact ⟨_, cap, h2, fun _ => ⟨g, rfl⟩⟩
theorem own_cap {w : World} {base e size n cp : Nat} {ao : Option Addr} {xs : List Value} (h : w.ownsRow base e size (.slice ao n cp) n xs) : n ≤ cp := by
  rcases h.2 with ⟨h2, h3⟩ | ⟨g, cap, cur, h2, _, _, h5, _⟩
  · omega
  · cases h2; exact h5
/-- A block of cells of the type t. -/
def Ty (w : World) (k t : Nat) : Prop := ∃ cs fz, w.heap[k]? = some (.cells cs t fz)
theorem Ty.same {w w' : World} {k t : Nat} (h : Ty w k t) (e : w'.heap[k]? = w.heap[k]?) : Ty w' k t := by
  obtain ⟨cs, fz, h⟩ := h
  exact ⟨cs, fz, e.trans h⟩
theorem Ty.ne {w : World} {k t u : Nat} (h : Ty w k t) (hu : t ≠ u) : ¬ Ty w k u := by
  rintro ⟨cs, fz, h2⟩
  obtain ⟨cs', fz', h⟩ := h
  rw [h] at h2
  simp at h2
  exact hu h2.2.1
theorem Ty.lt {w : World} {k t : Nat} (h : Ty w k t) : k < w.heap.size := by
  obtain ⟨cs, fz, h⟩ := h
  rcases Nat.lt_or_ge k w.heap.size with h1 | h1
  · exact h1
  · rw [Array.getElem?_eq_none h1] at h; cases h
theorem Ty.setCell {w : World} {k t : Nat} (h : Ty w k t) (a : Addr) (v : Value) : Ty (w.setCell a v) k t := by
  obtain ⟨cs, fz, h⟩ := h
  by_cases e : a.block = k
  · subst e
    refine ⟨if a.spot.isSome = true then cs else cs.setIfInBounds a.off v, fz, ?_⟩
    simp only [World.setCell, Array.getElem?_modify, h]
    simp
  · exact ⟨cs, fz, (Below.heap_setCell _ _ _ _ (fun x => e x.symm)).trans h⟩
theorem Ty.alloc {w : World} {k t : Nat} (h : Ty w k t) (o : Obj) : Ty (w.alloc o) k t := h.same (Below.heap_alloc _ _ _ h.lt)
theorem Ty.new (w : World) (cs : Array Value) (t : Nat) : Ty (w.alloc (.cells cs t)) w.heap.size t := ⟨cs, (0, 0), heap_alloc_new w _⟩
theorem Ty.own {w : World} {base e size n : Nat} {v : Value} {xs : List Value} (h : w.ownsRow base e size v n xs) {k : Nat} (hk : v.ownBlock = some k) : Ty w k e := by
  rcases h.2 with ⟨rfl, _⟩ | ⟨g, cap, cur, rfl, _, h3, _⟩
  · cases hk
  · have : g = k := by simpa [Value.ownBlock] using hk
    subst this
    exact ⟨cur, (0, 0), h3⟩

/-- Rows of items. -/
def RowOf {α : Type} (C : (Nat → Prop) → World → α → List Value → Prop) (size : Nat) (S : Nat → Prop) (w : World) (l : List α) (a : Option Addr) : Prop :=
  l.length ≤ 281474976710656 ∧ ∀ j (h : j < l.length), ∃ b off cs, a = some ⟨b, off, none⟩ ∧ S b ∧ C S w l[j] cs ∧ cs.length = size ∧ ∀ k u, cs[k]? = some u → w.cell? ⟨b, off + j * size + k, none⟩ = some u
def numC (_ : Nat → Prop) (_ : World) (z : Int) (cs : List Value) : Prop := okN z ∧ cs = [.int .i64 z]
def flagC (_ : Nat → Prop) (_ : World) (b : Bool) (cs : List Value) : Prop := cs = [.bool b]
def textC (_ : Nat → Prop) (_ : World) (s : ByteArray) (cs : List Value) : Prop := s.size ≤ 281474976710656 ∧ cs = [.string s]
def listC {α : Type} (C : (Nat → Prop) → World → α → List Value → Prop) (size : Nat) (S : Nat → Prop) (w : World) (l : List α) (cs : List Value) : Prop := ∃ a cap, cs = [.slice a l.length cap] ∧ RowOf C size S w l a
def insC (S : Nat → Prop) (w : World) (x : Ins) (cs : List Value) : Prop :=
  (okN x.op ∧ okN x.a ∧ okN x.b ∧ okN x.c ∧ okN x.d) ∧ ∃ a cap, cs = [.int .i64 x.op, .int .i64 x.a, .int .i64 x.b, .int .i64 x.c, .int .i64 x.d, .slice a x.list.length cap] ∧ RowOf numC 1 S w x.list a
def fncC (S : Nat → Prop) (w : World) (x : Fnc) (cs : List Value) : Prop :=
  (x.name.size ≤ 281474976710656 ∧ okN x.params ∧ okN x.captures) ∧ ∃ a1 c1 a2 c2, cs = [.string x.name, .slice a1 x.refs.length c1, .int .i64 x.params, .int .i64 x.captures, .bool x.result, .slice a2 x.code.length c2] ∧ RowOf flagC 1 S w x.refs a1 ∧ RowOf insC 6 S w x.code a2
def prgC (S : Nat → Prop) (w : World) (x : Prg) (cs : List Value) : Prop :=
  okN x.main ∧ ∃ a1 c1 a2 c2 a3 c3 a4 c4, cs = [.slice a1 x.texts.length c1, .slice a2 x.globals.length c2, .slice a3 x.structs.length c3, .slice a4 x.funcs.length c4, .int .i64 x.main] ∧
    RowOf textC 1 S w x.texts a1 ∧ RowOf flagC 1 S w x.globals a2 ∧ RowOf (listC flagC 1) 1 S w x.structs a3 ∧ RowOf fncC 6 S w x.funcs a4
structure Gd {α : Type} (C : (Nat → Prop) → World → α → List Value → Prop) : Prop where
  mono : ∀ {S S' : Nat → Prop} {w : World} {x : α} {cs : List Value}, (∀ k, S k → S' k) → C S w x cs → C S' w x cs
  same : ∀ {S : Nat → Prop} {w w' : World} {x : α} {cs : List Value}, (∀ k, S k → w'.heap[k]? = w.heap[k]?) → C S w x cs → C S w' x cs
theorem numG : Gd numC := ⟨fun _ h => h, fun _ h => h⟩
theorem flagG : Gd flagC := ⟨fun _ h => h, fun _ h => h⟩
theorem textG : Gd textC := ⟨fun _ h => h, fun _ h => h⟩
theorem Gd.row {α : Type} {C : (Nat → Prop) → World → α → List Value → Prop} (g : Gd C) {size : Nat} {S S' : Nat → Prop} {w : World} {l : List α} {a : Option Addr} (hs : ∀ k, S k → S' k) (h : RowOf C size S w l a) : RowOf C size S' w l a :=
  ⟨h.1, fun j hj => by
    obtain ⟨b, off, cs, h1, h2, h3, h4, h5⟩ := h.2 j hj
    exact ⟨b, off, cs, h1, hs b h2, g.mono hs h3, h4, h5⟩⟩
theorem Gd.rowS {α : Type} {C : (Nat → Prop) → World → α → List Value → Prop} (g : Gd C) {size : Nat} {S : Nat → Prop} {w w' : World} {l : List α} {a : Option Addr} (hs : ∀ k, S k → w'.heap[k]? = w.heap[k]?) (h : RowOf C size S w l a) : RowOf C size S w' l a :=
  ⟨h.1, fun j hj => by
    obtain ⟨b, off, cs, h1, h2, h3, h4, h5⟩ := h.2 j hj
    exact ⟨b, off, cs, h1, h2, g.same hs h3, h4, fun k u hk => (World.cell?_of_block (w := w) (a := ⟨b, off + j * size + k, none⟩) (hs b h2)).trans (h5 k u hk)⟩⟩
theorem listG {α : Type} {C : (Nat → Prop) → World → α → List Value → Prop} (g : Gd C) (size : Nat) : Gd (listC C size) :=
  ⟨fun hs ⟨a, cap, e, h⟩ => ⟨a, cap, e, g.row hs h⟩, fun hs ⟨a, cap, e, h⟩ => ⟨a, cap, e, g.rowS hs h⟩⟩
theorem insG : Gd insC := ⟨fun hs ⟨o, a, cap, e, h⟩ => ⟨o, a, cap, e, numG.row hs h⟩, fun hs ⟨o, a, cap, e, h⟩ => ⟨o, a, cap, e, numG.rowS hs h⟩⟩
theorem fncG : Gd fncC := ⟨fun hs ⟨o, a1, c1, a2, c2, e, h, k⟩ => ⟨o, a1, c1, a2, c2, e, flagG.row hs h, insG.row hs k⟩, fun hs ⟨o, a1, c1, a2, c2, e, h, k⟩ => ⟨o, a1, c1, a2, c2, e, flagG.rowS hs h, insG.rowS hs k⟩⟩
theorem prgG : Gd prgC := ⟨fun hs ⟨o, a1, c1, a2, c2, a3, c3, a4, c4, e, h1, h2, h3, h4⟩ => ⟨o, a1, c1, a2, c2, a3, c3, a4, c4, e, textG.row hs h1, flagG.row hs h2, (listG flagG 1).row hs h3, fncG.row hs h4⟩,
  fun hs ⟨o, a1, c1, a2, c2, a3, c3, a4, c4, e, h1, h2, h3, h4⟩ => ⟨o, a1, c1, a2, c2, a3, c3, a4, c4, e, textG.rowS hs h1, flagG.rowS hs h2, (listG flagG 1).rowS hs h3, fncG.rowS hs h4⟩⟩

theorem rowNil {α : Type} (C : (Nat → Prop) → World → α → List Value → Prop) (size : Nat) (S : Nat → Prop) (w : World) (a : Option Addr) : RowOf C size S w ([] : List α) a := ⟨by simp, fun j h => by simp at h⟩
theorem row_get {α : Type} {C : (Nat → Prop) → World → α → List Value → Prop} (g : Gd C) {size : Nat} {S : Nat → Prop} {w wr : World} {l : List α} {a : Option Addr} (h : RowOf C size S w l a) (hS : ∀ k, S k → wr.heap[k]? = w.heap[k]?) {i : Nat} (hi : i < l.length) :
    ∃ b off cs, a = some ⟨b, off, none⟩ ∧ S b ∧ C S wr l[i] cs ∧ ∀ k u, cs[k]? = some u → wr.cell? ⟨b, off + i * size + k, none⟩ = some u := by
  obtain ⟨b, off, cs, h1, h2, h3, _, h5⟩ := (g.rowS hS h).2 i hi
  exact ⟨b, off, cs, h1, h2, h3, h5⟩
theorem row_all {α : Type} {C : (Nat → Prop) → World → α → List Value → Prop} {size : Nat} {S : Nat → Prop} {w : World} {l : List α} {a : Option Addr} {P : α → Prop} (h : RowOf C size S w l a) (hc : ∀ x cs, C S w x cs → P x) : ∀ x ∈ l, P x := by
  intro x hx
  obtain ⟨j, hj, rfl⟩ := List.getElem_of_mem hx
  obtain ⟨b, off, cs, _, _, h3, _⟩ := h.2 j hj
  exact hc _ _ h3
/-- Texts one behind the other. -/
def cat (f : Nat → List UInt8) : Nat → List UInt8
  | 0 => []
  | n + 1 => cat f n ++ f n
theorem cat_succ (f : Nat → List UInt8) (n : Nat) : cat f (n + 1) = cat f n ++ f n := rfl
theorem cat_le (f : Nat → List UInt8) {i n : Nat} (h : i ≤ n) : (cat f i).length ≤ (cat f n).length := by
  induction n with
  | zero => obtain rfl : i = 0 := by omega
            exact Nat.le_refl _
  | succ n ih =>
    rcases Nat.lt_or_ge i (n + 1) with h1 | h1
    · have := ih (by omega)
      rw [cat_succ, List.length_append]
      omega
    · obtain rfl : i = n + 1 := by omega
      exact Nat.le_refl _
theorem cat_bound (f : Nat → List UInt8) {B n : Nat} (h : ∀ i, i < n → (f i).length ≤ B) : (cat f n).length ≤ n * B := by
  induction n with
  | zero => simp [cat]
  | succ n ih =>
    have h1 := ih fun i hi => h i (by omega)
    have h2 := h n (by omega)
    rw [cat_succ, List.length_append, Nat.succ_mul]
    omega
/-- The bytes of an ASCII text. -/
def itoaT (z : Int) : List UInt8 := Lib.itoa z
theorem itoaT_le {z : Int} (h : okN z) : (itoaT z).length ≤ 21 := Lib.itoa_length_le z h.1 h.2
def numT (l : List Int) (j : Nat) : List UInt8 := (if 0 < j then [32] else []) ++ itoaT (l.getD j 0)
def numsT (l : List Int) : List UInt8 := 91 :: (cat (numT l) l.length ++ [93])
def refT (l : List Bool) (j : Nat) : List UInt8 := [if l.getD j false then 114 else 110]
def refsT (l : List Bool) : List UInt8 := cat (refT l) l.length
end Go.Proofs.YtipnefogflpkhaaDoor
