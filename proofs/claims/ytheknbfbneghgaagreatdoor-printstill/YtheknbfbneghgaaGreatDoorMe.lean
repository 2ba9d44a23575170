import Derived.Test.YtheknbfbneghgaaGreatDoorMc
import Derived.Test.YtheknbfbneghgaaGreatDoorMa
import Derived.Test.YtheknbfbneghgaaGreatDoorMd
import Derived.Test.YtheknbfbneghgaaGreatDoorMb
import Derived.Lib.ItoaLen
set_option linter.unusedVariables false
set_option linter.unusedSimpArgs false
set_option maxRecDepth 100000
namespace Go.Proofs.YtheknbfbneghgaaGreatDoor.Px
open Go.Proofs.YtheknbfbneghgaaGreatDoor.Lx
def pz (t : Tree) (i : Nat) : Nat := ((t.kids.map sz)[i]?).getD 0
def ss (l : List Tree) : Nat := (l.map sz).sum
theorem ss_kids (t : Tree) : ss t.kids + 1 ≤ sz t := by cases t; rw [sz_mk]; unfold ss; simp only [Tree.kids]; split <;> omega
theorem pz4 (t : Tree) : pz t 0 + pz t 1 + pz t 2 + pz t 3 + 1 ≤ sz t := by
  have h := ss_kids t
  unfold pz ss at *
  generalize t.kids.map sz = l at *
  match l with
  | [] => simp at *; omega
  | [a] => simp at *; omega
  | [a, b] => simp at *; omega
  | [a, b, c] => simp at *; omega
  | a :: b :: c :: e :: r => simp at *; omega
theorem pz_drop (t : Tree) : pz t 0 + ss (t.kids.drop 1) + 1 ≤ sz t := by
  have h := ss_kids t
  unfold pz ss at *
  rw [List.map_drop]
  generalize t.kids.map sz = l at *
  cases l with
  | nil => simp at *; omega
  | cons a r => simp at *; omega
theorem pz_take (t : Tree) : ss (t.kids.take (t.kids.length - 1)) + pz t (t.kids.length - 1) + 1 ≤ sz t := by
  have h := ss_kids t
  unfold pz ss at *
  have hl : t.kids.length = (t.kids.map sz).length := by simp
  rw [List.map_take, hl]
  generalize t.kids.map sz = l at *
  rcases List.eq_nil_or_concat l with rfl | ⟨r, a, rfl⟩
  · simp at *; omega
  · simp at *; omega
theorem sep_len {f : Tree → List UInt8} : ∀ (l : List Tree), (∀ s ∈ l, (f s).length + 800000 ≤ 2000000 * sz s) → (sepJ (l.map f)).length ≤ 2000000 * ss l := by
  have hx : ∀ (l : List Tree), (∀ s ∈ l, (f s).length + 800000 ≤ 2000000 * sz s) → ((l.map f).flatMap fun y => [44, 32] ++ y).length ≤ 2000000 * ss l := by
    intro l
    induction l with
    | nil => intro _; simp
    | cons a r ih =>
      intro h
      have h1 := h a zK
      have h2 := ih (fun s m => h s (by simp [m]))
      simp only [ss, List.map_cons, List.flatMap_cons, List.length_append, List.length_cons, List.length_nil, List.sum_cons] at *
      omega
  intro l h
  cases l with
  | nil => simp [sepJ]
  | cons a r =>
    have h1 := h a zK
    have h2 := hx r (fun s m => h s (by simp [m]))
    simp only [ss, sepJ, List.map_cons, List.length_append, List.sum_cons] at *
    omega
theorem flat_len {f : Tree → List UInt8} : ∀ (l : List Tree), (∀ s ∈ l, (f s).length ≤ 2000000 * sz s) → (l.flatMap f).length ≤ 2000000 * ss l := by
  intro l
  induction l with
  | nil => intro _; simp
  | cons a r ih =>
    intro h
    have h1 := h a zK
    have h2 := ih (fun s m => h s (by simp [m]))
    simp only [ss, List.map_cons, List.flatMap_cons, List.length_append, List.sum_cons] at *
    omega
theorem unl_len (a : List UInt8) (f : Tree → List UInt8) (s : Tree) : (unlT a f s).length ≤ a.length + (f s).length := by unfold unlT; split <;> simp
theorem q_two (l : List UInt8) : (l.flatMap qB).length ≤ 2 * l.length := by
  induction l with
  | nil => simp
  | cons c r ih =>
    have : (qB c).length ≤ 2 := by unfold qB; split; simp; split; simp; split <;> simp
    simp only [List.flatMap_cons, List.length_append, List.length_cons]; omega
theorem tabs_len (d : Nat) : (tabsT d).length = d := by simp [tabsT]
def PJp : PrJ → Bool
  | .expr | .stmt | .block | .wtype | .params | .pointed | .exprStmt | .clauseStmts => true
  | _ => false
theorem zero_len (digits : Int → List UInt8) : ∀ (n : Nat) (j : PrJ) (d : Nat), (pr digits n j d zeroT).length ≤ 3 ∨ PJp j = false := by
  have h1 : ∀ n d, (pr digits n .primary d zeroT).length ≤ 1 := fun n d => by cases n <;> simp [pr, ym, zeroT, Tree.kind]
  have h2 : ∀ n d, (pr digits n .simple d zeroT).length ≤ 1 := fun n d => by cases n <;> simp [pr, ym, zeroT, Tree.kind]
  have h3 : ∀ n d, (pr digits n .expr d zeroT).length ≤ 1 := fun n d => by cases n with | zero => simp [pr] | succ n => have := h1 n d; simp [pr, ym, zeroT, Tree.kind] at *; exact this
  intro n j d
  cases j
  case expr => left; have := h3 n d; omega
  case stmt => left; cases n with | zero => simp [pr] | succ n => have := h2 n d; simp [pr, ym, zeroT, Tree.kind] at *; omega
  case exprStmt => left; cases n with | zero => simp [pr] | succ n => have := h3 n d; simp [pr, ym, zeroT, Tree.kind] at *; omega
  case block => left; cases n <;> simp [pr, ym, zeroT, Tree.kind]
  case wtype => left; cases n <;> simp [pr, ym, zeroT, Tree.kind]
  case params => left; cases n <;> simp [pr, ym, zeroT, Tree.kind]
  case pointed => left; cases n <;> simp [pr, ym, zeroT, Tree.kind]
  case clauseStmts => left; cases n <;> simp [pr, ym, zeroT, Tree.kind]
  all_goals right; rfl
end Go.Proofs.YtheknbfbneghgaaGreatDoor.Px
set_option maxHeartbeats 20000000
set_option maxRecDepth 100000
namespace Go.Proofs.YtheknbfbneghgaaGreatDoor.Px
open Go.Proofs.YtheknbfbneghgaaGreatDoor.Lx
theorem len_ite {c : Prop} [Decidable c] {a b : List UInt8} {n : Nat} (h1 : a.length ≤ n) (h2 : b.length ≤ n) : (if c then a else b).length ≤ n := by split <;> assumption
def jOk : PrJ → Prop
  | .both s => s.length ≤ 8192
  | .jump s => s.length ≤ 8192
  | _ => True
theorem part_text {t : Tree} (h : OkT 8192 t) (i : Nat) : (yM t i).text.length ≤ 8192 := by
  unfold yM
  rw [List.getD_eq_getElem?_getD]
  cases e : t.kids[i]? with
  | some x => exact OkT_text (OkT_kids h x (List.mem_of_getElem? e))
  | none => simp [zeroT, Tree.text]
theorem OkT_num {M : Nat} {t : Tree} (h : OkT M t) : I6 t.num := by cases t; rw [OkT_mk] at h; exact h.2.1
theorem quo_len (x : List UInt8) : (quoT x).length ≤ 2 * x.length + 2 := by
  have := q_two x
  simp only [quoT, List.length_cons, List.length_append, List.length_nil]; omega
theorem lines_len {f : Tree → List UInt8} (d : Nat) (hd : d ≤ 300000) (l : List Tree) (h : ∀ s ∈ l, (f s).length + 800000 ≤ 2000000 * sz s) : (linesT f d l).length ≤ 2000000 * ss l :=
  flat_len l fun s m => by have := h s m; simp only [List.length_append, tabs_len, List.length_cons, List.length_nil]; omega

theorem prS_len (digits : Int → List UInt8) (hdig : ∀ v, I6 v → (digits v).length ≤ 100) (rec : PrJ → Nat → Tree → List UInt8) (d : Nat) (t : Tree) (ht : OkT 8192 t) (hd : d + sz t ≤ 300000)
    (hk : ∀ j d' s, s ∈ t.kids → d' ≤ d + 1 → jOk j → (rec j d' s).length + 800000 ≤ 2000000 * sz s)
    (hp : ∀ j i, PJp j = true → (rec j d (yM t i)).length ≤ 2000000 * pz t i + 3)
    (hs : ∀ j, jOk j → (rec j d t).length ≤ 2000000 * (sz t - 1) + 400000 * (rnk j + 1))
    (hty : (rec .typed d t).length ≤ 8200 + 2000000 * pz t 0)
    (hbo : ∀ s, s.length ≤ 8192 → (rec (.both s) d t).length ≤ 8210 + 2000000 * (pz t 0 + pz t 1))
    (hfp : (rec .forParts d t).length ≤ 100 + 2000000 * (pz t 0 + pz t 1 + pz t 2))
    (j : PrJ) (hj : jOk j) : (ym digits rec j d t).length ≤ 2000000 * (sz t - 1) + 400000 * (rnk j + 1) := by
  have h4 := pz4 t
  have hdr := pz_drop t
  have htk := pz_take t
  have hsk := ss_kids t
  have htx := OkT_text ht
  have hd0 : d ≤ 300000 := om
  cases j with
  | expr =>
    have f1 := hs .primary trivial
    have f2 := hs .builtin trivial
    have f3 := hs .function trivial
    have f4 := hbo t.text htx
    have f5 := hp .wtype 0 rfl
    have f6 := hp .expr 0 rfl
    have f7 := sep_len (f := rec .initial d) t.kids (fun s m => hk .initial d s m om trivial)
    have f8 := sep_len (f := rec .expr d) (t.kids.drop 1) (fun s m => hk .expr d s (List.mem_of_mem_drop m) om trivial)
    have f9 := hdig t.num (OkT_num ht)
    have f10 := quo_len t.text
    simp only [ym]
    repeat' split
    all_goals simp only [List.length_append, List.length_cons, List.length_nil, rnk] at *
    all_goals omega
  | primary =>
    have f1 := hp .expr 0 rfl
    have f2 := hp .expr 1 rfl
    have f3 := hp .expr 2 rfl
    have f4 := sep_len (f := rec .expr d) (t.kids.drop 1) (fun s m => hk .expr d s (List.mem_of_mem_drop m) om trivial)
    have f5 := unl_len [] (rec .expr d) (yM t 1)
    have g5 := hp .expr 1 rfl
    have f6 := unl_len [] (rec .expr d) (yM t 2)
    have g6 := hp .expr 2 rfl
    simp only [ym]
    repeat' split
    all_goals simp only [List.length_append, List.length_cons, List.length_nil, rnk] at *
    all_goals omega
  | both s =>
    have f1 := hp .expr 0 rfl
    have f2 := hp .expr 1 rfl
    have f3 : s.length ≤ 8192 := hj
    simp only [ym]
    repeat' split
    all_goals simp only [List.length_append, List.length_cons, List.length_nil, rnk] at *
    all_goals omega
  | initial =>
    have f1 := hp .expr 0 rfl
    simp only [ym]
    repeat' split
    all_goals simp only [List.length_append, List.length_cons, List.length_nil, rnk] at *
    all_goals omega
  | builtin =>
    have f1 := hp .wtype 0 rfl
    have f2 := hp .expr 1 rfl
    have f3 := hp .pointed 0 rfl
    have f4 := sep_len (f := rec .expr d) t.kids (fun s m => hk .expr d s m om trivial)
    simp only [ym]
    repeat' split
    all_goals simp only [List.length_append, List.length_cons, List.length_nil, rnk] at *
    all_goals omega
  | pointed =>
    simp only [ym]
    repeat' split
    all_goals simp only [List.length_append, List.length_cons, List.length_nil, rnk] at *
    all_goals omega
  | wtype =>
    have f1 := hp .wtype 0 rfl
    have f2 := sep_len (f := rec .wtype d) (t.kids.take (t.kids.length - 1)) (fun s m => hk .wtype d s (List.mem_of_mem_take m) om trivial)
    have f3 := hp .wtype (t.kids.length - 1) rfl
    have f4 := unl_len [32] (rec .wtype d) (yM t (t.kids.length - 1))
    have g4 := hp .wtype (t.kids.length - 1) rfl
    simp only [ym]
    repeat' split
    all_goals simp only [List.length_append, List.length_cons, List.length_nil, rnk] at *
    all_goals omega
  | typed =>
    have f1 := hp .wtype 0 rfl
    simp only [ym]
    repeat' split
    all_goals simp only [List.length_append, List.length_cons, List.length_nil, rnk] at *
    all_goals omega
  | field =>
    have f1 := hs .typed trivial
    simp only [ym]
    repeat' split
    all_goals simp only [List.length_append, List.length_cons, List.length_nil, rnk] at *
    all_goals omega
  | param =>
    have f1 := hs .typed trivial
    simp only [ym]
    repeat' split
    all_goals simp only [List.length_append, List.length_cons, List.length_nil, rnk] at *
    all_goals omega
  | params =>
    have f1 := sep_len (f := rec .param d) t.kids (fun s m => hk .param d s m om trivial)
    simp only [ym]
    repeat' split
    all_goals simp only [List.length_append, List.length_cons, List.length_nil, rnk] at *
    all_goals omega
  | function =>
    have f1 := hp .params 0 rfl
    have f2 := hp .wtype 1 rfl
    have f3 := unl_len [32] (rec .wtype d) (yM t 1)
    have g3 := hp .wtype 1 rfl
    have f4 := hp .block 2 rfl
    simp only [ym]
    repeat' split
    all_goals simp only [List.length_append, List.length_cons, List.length_nil, rnk] at *
    all_goals omega
  | decl =>
    have f1 := lines_len (f := rec .field (d + 1)) d hd0 t.kids (fun s m => hk .field (d + 1) s m om trivial)
    have f2 := hs .typed trivial
    have f3 := hs .function trivial
    simp only [ym]
    repeat' split
    all_goals simp only [List.length_append, List.length_cons, List.length_nil, rnk] at *
    all_goals omega
  | file =>
    have f1 := flat_len (f := fun k => rec .decl d k ++ [10]) t.kids (fun s m => by have := hk .decl d s m om trivial; simp only [List.length_append, List.length_cons, List.length_nil]; omega)
    simp only [ym]
    repeat' split
    all_goals simp only [List.length_append, List.length_cons, List.length_nil, rnk] at *
    all_goals omega
  | block =>
    have f1 := lines_len (f := rec .stmt (d + 1)) d hd0 t.kids (fun s m => hk .stmt (d + 1) s m om trivial)
    have f2 := tabs_len d
    simp only [ym]
    repeat' split
    all_goals simp only [List.length_append, List.length_cons, List.length_nil, rnk] at *
    all_goals omega
  | stmt =>
    have f1 := hty
    have f2 := hp .expr 0 rfl
    have f3 := hp .expr 1 rfl
    have f4 := unl_len [32, 61, 32] (rec .expr d) (yM t 1)
    have g4 := hp .expr 1 rfl
    have f5 := unl_len [32] (rec .expr d) (yM t 0)
    have g5 := hp .expr 0 rfl
    have f6 := hs .block trivial
    have f7 := hs .ifStmt trivial
    have f8 := hs .forStmt trivial
    have f9 := hs .switchStmt trivial
    have f10 := hs .selectStmt trivial
    have f11 := hs (.jump [98, 114, 101, 97, 107]) (by simp [jOk])
    have g11 := hs (.jump [99, 111, 110, 116, 105, 110, 117, 101]) (by simp [jOk])
    have f12 := hp .stmt 0 rfl
    have f13 := hs .simple trivial
    simp only [ym]
    repeat' (refine len_ite ?_ ?_)
    all_goals simp only [List.length_append, List.length_cons, List.length_nil, rnk] at *
    all_goals omega
  | jump s =>
    have f1 : s.length ≤ 8192 := hj
    simp only [ym]
    repeat' split
    all_goals simp only [List.length_append, List.length_cons, List.length_nil, rnk] at *
    all_goals omega
  | simple =>
    have f1 := hp .expr 0 rfl
    have f2 := hbo t.text htx
    have f3 := hbo [60, 45] zK
    have f4 := hp .exprStmt 0 rfl
    simp only [ym]
    repeat' split
    all_goals simp only [List.length_append, List.length_cons, List.length_nil, rnk] at *
    all_goals omega
  | exprStmt =>
    have f1 := hp .expr 0 rfl
    have f2 := hs .expr trivial
    simp only [ym]
    repeat' split
    all_goals simp only [List.length_append, List.length_cons, List.length_nil, rnk] at *
    all_goals omega
  | ifStmt =>
    have f1 := hp .expr 0 rfl
    have f2 := hp .block 1 rfl
    have f3 := hp .stmt 2 rfl
    have f4 := unl_len [32, 101, 108, 115, 101, 32] (rec .stmt d) (yM t 2)
    have g4 := hp .stmt 2 rfl
    simp only [ym]
    repeat' split
    all_goals simp only [List.length_append, List.length_cons, List.length_nil, rnk] at *
    all_goals omega
  | forStmt =>
    have f1 := hfp
    have f2 := hp .expr 1 rfl
    have f3 := unl_len [32] (rec .expr d) (yM t 1)
    have g3 := hp .expr 1 rfl
    have f4 := hp .block 3 rfl
    simp only [ym]
    repeat' split
    all_goals simp only [List.length_append, List.length_cons, List.length_nil, rnk] at *
    all_goals omega
  | forParts =>
    have f1 := hp .stmt 0 rfl
    have f2 := unl_len [] (rec .stmt d) (yM t 0)
    have g2 := hp .stmt 0 rfl
    have f3 := hp .expr 1 rfl
    have f4 := unl_len [] (rec .expr d) (yM t 1)
    have g4 := hp .expr 1 rfl
    have f5 := hp .stmt 2 rfl
    have f6 := unl_len [32] (rec .stmt d) (yM t 2)
    have g6 := hp .stmt 2 rfl
    simp only [ym]
    repeat' split
    all_goals simp only [List.length_append, List.length_cons, List.length_nil, rnk] at *
    all_goals omega
  | switchStmt =>
    have f1 := hp .expr 0 rfl
    have f2 := unl_len [32] (rec .expr d) (yM t 0)
    have g2 := hp .expr 0 rfl
    have f3 := flat_len (f := rec .clause d) (t.kids.drop 1) (fun s m => by have := hk .clause d s (List.mem_of_mem_drop m) om trivial; omega)
    have f4 := tabs_len d
    simp only [ym]
    repeat' split
    all_goals simp only [List.length_append, List.length_cons, List.length_nil, rnk] at *
    all_goals omega
  | selectStmt =>
    have f1 := flat_len (f := rec .comm d) t.kids (fun s m => by have := hk .comm d s m om trivial; omega)
    have f2 := tabs_len d
    simp only [ym]
    repeat' split
    all_goals simp only [List.length_append, List.length_cons, List.length_nil, rnk] at *
    all_goals omega
  | clause =>
    have f1 := sep_len (f := rec .expr d) (t.kids.take (t.kids.length - 1)) (fun s m => hk .expr d s (List.mem_of_mem_take m) om trivial)
    have f2 := hp .clauseStmts (t.kids.length - 1) rfl
    have f3 := tabs_len d
    simp only [ym]
    repeat' split
    all_goals simp only [List.length_append, List.length_cons, List.length_nil, rnk] at *
    all_goals omega
  | comm =>
    have f1 := hs .receiving trivial
    have f2 := hbo [60, 45] zK
    have f3 := hp .clauseStmts 2 rfl
    have f4 := hp .clauseStmts 0 rfl
    have f5 := tabs_len d
    simp only [ym]
    repeat' split
    all_goals simp only [List.length_append, List.length_cons, List.length_nil, rnk] at *
    all_goals omega
  | receiving =>
    have f1 := hp .expr 0 rfl
    have f2 := hp .expr 1 rfl
    have f3 := hp .clauseStmts 1 rfl
    have f4 := hp .clauseStmts 2 rfl
    have f5 := part_text ht 0
    have f6 := tabs_len d
    simp only [ym]
    repeat' split
    all_goals simp only [List.length_append, List.length_cons, List.length_nil, rnk] at *
    all_goals omega
  | clauseStmts =>
    have f1 := lines_len (f := rec .stmt (d + 1)) d hd0 t.kids (fun s m => hk .stmt (d + 1) s m om trivial)
    simp only [ym]
    repeat' split
    all_goals simp only [List.length_append, List.length_cons, List.length_nil, rnk] at *
    all_goals omega
theorem OkT_sub {t : Tree} (h : OkT 8192 t) {s : Tree} (m : s ∈ t.kids) : OkT 8192 s := OkT_kids h s m
theorem sz_pos (t : Tree) : 1 ≤ sz t := by cases t; rw [sz_mk]; split <;> omega
theorem rank_three (j : PrJ) : 400000 * (rnk j + 1) ≤ 1200000 := by have := rank_le j; omega
theorem pr_len (digits : Int → List UInt8) (hdig : ∀ v, I6 v → (digits v).length ≤ 100) : ∀ (n : Nat) (m : Nat), m ≤ n → ∀ (j : PrJ) (d : Nat) (t : Tree), jOk j → OkT 8192 t → d + sz t ≤ 300000 → (pr digits m j d t).length ≤ 2000000 * (sz t - 1) + 400000 * (rnk j + 1)
  | _, 0, _, j, d, t, _, _, _ => by simp [pr]
  | 0, m + 1, h, _, _, _, _, _, _ => absurd h om
  | n + 1, m + 1, h, j, d, t, hj, ht, hd => by
    have ih := fun m' (h : m' ≤ n) => pr_len digits hdig n m' h
    have hk : ∀ m', m' ≤ n → ∀ j d' s, s ∈ t.kids → d' ≤ d + 1 → jOk j → (pr digits m' j d' s).length + 800000 ≤ 2000000 * sz s := fun m' hm j d' s ms hd' hj => by
      have h1 := sz_mem ms
      have h2 := ih m' hm j d' s hj (OkT_sub ht ms) om
      have h3 := rank_three j
      have h4 := sz_pos s
      omega
    have hp : ∀ m', m' ≤ n → ∀ j i, PJp j = true → (pr digits m' j d (yM t i)).length ≤ 2000000 * pz t i + 3 := fun m' hm j i hb => by
      unfold yM pz
      rw [List.getD_eq_getElem?_getD, List.getElem?_map]
      cases e : t.kids[i]? with
      | some x =>
        have := hk m' hm j d x (List.mem_of_getElem? e) om (by cases j <;> first | trivial | cases hb)
        simp only [Option.map_some, Option.getD_some]
        omega
      | none =>
        rcases zero_len digits m' j d with h | h
        · simpa using h
        · rw [hb] at h; cases h
    refine prS_len digits hdig (pr digits m) d t ht hd (hk m om) (hp m om) (fun j hj => ih m om j d t hj ht hd) ?_ ?_ ?_ j hj
    · cases m with
      | zero => simp [pr]
      | succ m =>
        have f1 := hp m om .wtype 0 rfl
        have := OkT_text ht
        simp only [pr, ym, List.length_append, List.length_cons, List.length_nil]
        omega
    · intro s hs
      cases m with
      | zero => simp [pr]
      | succ m =>
        have f1 := hp m om .expr 0 rfl
        have f2 := hp m om .expr 1 rfl
        simp only [pr, ym, List.length_append, List.length_cons, List.length_nil]
        omega
    · cases m with
      | zero => simp [pr]
      | succ m =>
        have f1 := hp m om .stmt 0 rfl
        have f2 := hp m om .expr 1 rfl
        have f3 := hp m om .stmt 2 rfl
        have g1 := unl_len [] (pr digits m .stmt d) (yM t 0)
        have g2 := unl_len [] (pr digits m .expr d) (yM t 1)
        have g3 := unl_len [32] (pr digits m .stmt d) (yM t 2)
        simp only [pr, ym, List.length_append, List.length_cons, List.length_nil] at *
        omega
end Go.Proofs.YtheknbfbneghgaaGreatDoor.Px
set_option maxRecDepth 100000
namespace Go.Proofs.YtheknbfbneghgaaGreatDoor.Px
open Go.Proofs.YtheknbfbneghgaaGreatDoor.Lx Go.Proofs.YtheknbfbneghgaaGreatDoor.Pp
theorem sz_cnt : ∀ (n : Nat) (t : Tree), SizeOf.sizeOf t ≤ n → sz t ≤ 2 * cnt t
  | 0, t, h => by cases t; simp at h
  | n + 1, .mk k x m p l, h => by
    rw [sz_mk, cnt_mk, cntL]
    have hl : ∀ r : List Tree, (∀ t ∈ r, t ∈ l) → (r.map sz).sum ≤ 2 * (r.map cnt).sum := by
      intro r
      induction r with
      | nil => intro _; simp
      | cons a r ih =>
        intro hm
        have h1 := sz_cnt n a (by have := List.sizeOf_lt_of_mem (hm a zK); simp at h; omega)
        have h2 := ih (fun t m => hm t (by simp [m]))
        simp only [List.map_cons, List.sum_cons]
        omega
    have := hl l (fun _ m => m)
    split <;> omega
theorem nums_of : ∀ (n : Nat) (t : Tree), SizeOf.sizeOf t ≤ n → OkT 8192 t → NumsOk I6 t
  | 0, t, h, _ => by cases t; simp at h
  | n + 1, .mk k x m p l, h, ho => by
    rw [OkT_mk] at ho
    rw [NumsOk_mk]
    exact ⟨ho.2.1, fun t mt => nums_of n t (by have := List.sizeOf_lt_of_mem mt; simp at h; omega) (ho.2.2 t mt)⟩
end Go.Proofs.YtheknbfbneghgaaGreatDoor.Px
set_option maxRecDepth 100000
namespace Go.Proofs.YtheknbfbneghgaaGreatDoor.Px
open Go.Proofs.YtheknbfbneghgaaGreatDoor.Lx
theorem file_top (ts : List Tok) (h : Bool) : ∀ (n : Nat) (acc : List Tree) (k : Nat) (l : List Tree) (s : Int) (k' : Nat), k ≤ ts.length → run ts n (.fileMore acc) h k = .ok l s k' → k' ≤ ts.length ∧ ∃ kids, l = [nd 1 [] 0 kids]
 | 0, _, _, _, _, _, _, e => by cases e
 | n + 1, acc, k, l, s, k', hk, e => by
   have e2 : fFileMore ts (run ts n) acc h k = .ok l s k' := e
   unfold fFileMore at e2
   split at e2
   ·cases e2; exact ⟨hk, _, rfl⟩
   ·cases hd : run ts n .decl h k with
    | ok l2 s2 k2 =>
      rw [hd] at e2
      match l2, e2 with
      | [d], e2 =>
        simp only [R.bind1, want] at e2
        split at e2
        ·rename_i hq
         exact file_top ts h n _ _ _ _ _ (lt_is hq) e2
        ·cases e2
      | [], e2 => cases e2
      | _ :: _ :: _, e2 => cases e2
    | bad p => rw [hd] at e2; cases e2
    | out => rw [hd] at e2; cases e2
theorem small_of : ∀ (n : Nat) (t : Px.Tree), SizeOf.sizeOf t ≤ n → cnt t ≤ 1000000 → Jj.small t = true := by
 intro n
 induction n with
 | zero => intro t h; exfalso; cases t; simp at h
 | succ n ih =>
   intro t h hc
   cases t with
   | mk a b c d l =>
     rw [cnt_mk] at hc
     have hl := cntL_len l
     rw [Jj.small]
     simp only [Bool.and_eq_true, decide_eq_true_eq, List.all_eq_true]
     refine ⟨om, fun x hx => ?_⟩
     obtain ⟨t, ht, rfl⟩ := List.mem_map.1 hx
     have h1 := List.sizeOf_lt_of_mem ht
     have h2 := cntL_mem ht
     simp only [Px.Tree.mk.sizeOf_spec] at h
     exact ih t om om
theorem scan_len : ∀ (f : Nat) (l : List UInt8) (k : Nat) (ts ts' : List Tok), k ≤ l.length → scanF f l k ts = .inr ts' → ts'.length + k ≤ ts.length + l.length
  | 0, l, k, ts, ts', hk, e => by cases e; omega
  | f + 1, l, k, ts, ts', hk, e => by
    unfold scanF at e
    split at e
    · rename_i hlt
      split at e
      · cases e
      · rename_i q hq
        have h1 := partF_prog l k ts hlt q.1 q.2 hq
        have h2 := scan_len f l q.1 q.2 ts' h1.2.1 e
        omega
    · cases e; omega
theorem lex_len (l : List UInt8) : (lexR l).1.length ≤ l.length + 2 := by
  unfold lexR
  split
  · simp
  · split
    · simp
    · rename_i ts hs
      split
      · simp
      · have h1 := scan_len _ l 0 [] ts (Nat.zero_le _) hs
        have h2 := Go.Proofs.YtheknbfbneghgaaGreatDoor.Lx.endT_len ts (l.length : Int)
        simp only [allP, List.length_append, List.length_cons, List.length_nil] at *
        omega
theorem parsed (l : List UInt8) (hl : l.length ≤ 4000) (h0 : (lexR l).2.1 = 0) (t : Tree) (n : Nat) (s : Int) (k' : Nat) (hr : run (lexR l).1 n (.fileMore []) false 0 = .ok [t] s k') : (∃ kids, t = .mk 1 [] 0 0 kids) ∧ OkT 8192 t ∧ sz t ≤ 300000 ∧ Jj.small t = true := by
  obtain ⟨hk, kids, he⟩ := file_top (lexR l).1 false n [] 0 [t] s k' (Nat.zero_le _) hr
  simp only [List.cons.injEq, and_true] at he
  subst he
  have h1 := (run_few (lexR l).1 n (.fileMore []) false 0 trivial _ _ _ hr).2
  have h2 := lex_len l
  simp only [cntL_cons, cntL_nil, cj, ex] at h1
  have h3 : cnt (nd 1 [] 0 kids) ≤ 70000 := om
  have h4 := parse_ok l h0 n false kids s k' hr
  have h5 := sz_cnt _ (nd 1 [] 0 kids) lr
  exact ⟨⟨kids, rfl⟩, by rw [OkT_nd]; exact ⟨by simp, h4⟩, om, small_of _ _ lr om⟩
theorem sz_er : ∀ (n : Nat) (t : Tree), SizeOf.sizeOf t ≤ n → sz (er t) = sz t
  | 0, t, h => by cases t; simp at h
  | n + 1, .mk k x m p l, h => by
    rw [er_mk, sz_mk, sz_mk, List.map_map]
    congr 2
    apply List.map_congr_left
    intro t mt
    exact sz_er n t (by have := List.sizeOf_lt_of_mem mt; simp at h; omega)
theorem ok_er : ∀ (n : Nat) (t : Tree), SizeOf.sizeOf t ≤ n → OkT 8192 t → OkT 8192 (er t)
  | 0, t, h, _ => by cases t; simp at h
  | n + 1, .mk k x m p l, h, ho => by
    rw [OkT_mk] at ho
    rw [er_mk, OkT_mk]
    refine ⟨ho.1, ho.2.1, fun t mt => ?_⟩
    obtain ⟨s, ms, rfl⟩ := List.mem_map.1 mt
    exact ok_er n s (by have := List.sizeOf_lt_of_mem ms; simp at h; omega) (ho.2.2 s ms)
end Go.Proofs.YtheknbfbneghgaaGreatDoor.Px
namespace Go.Proofs.YtheknbfbneghgaaGreatDoor.Pp
open Go.RowKit Go.Proofs.YtheknbfbneghgaaGreatDoor.Lx Go.Proofs.YtheknbfbneghgaaGreatDoor.Px
/-- The text of a file. -/
def prt (t : Tree) : List UInt8 := pr Lib.itoa 2400010 .file 0 t
theorem prt_er (t : Tree) : prt (er t) = prt t := pr_er _ _ _ _ _
theorem prt_len {t : Tree} (ho : OkT 8192 t) (hz : sz t ≤ 300000) : (prt t).length ≤ 1099511627776 := by
  have h := Go.Proofs.YtheknbfbneghgaaGreatDoor.Px.pr_len Lib.itoa (fun v hv => by have := Lib.itoa_length_le v hv.1 hv.2; omega) 2400010 2400010 lr .file 0 t trivial ho om
  unfold prt
  simp only [rnk] at h
  omega
theorem File_ok (w : World) (kd : Int) (tx : List UInt8) (nm ps : Int) (ks : List Tree) (ao : Option Addr) (cp : Nat) (hk : Jj.KidsAt w (.slice ao ks.length cp) ks) (hT : TabOk w) (ho : OkT 8192 (.mk kd tx nm ps ks)) (hz : sz (.mk kd tx nm ps ks) ≤ 300000) :
    Calls Tryz.prog 8 #[nA kd tx nm ps ao ks.length cp] w fun e w' => e = .returned (.string ⟨(prt (.mk kd tx nm ps ks)).toArray⟩) ∧ w.grownBy w' none :=
  File_any w kd tx nm ps ks ao cp 2400010 hk hT (nums_of _ _ lr ho) (by unfold nee; simp only [rnk]; omega) om (prt_len ho hz)
end Go.Proofs.YtheknbfbneghgaaGreatDoor.Pp
set_option maxHeartbeats 4000000
set_option maxRecDepth 100000
namespace Go.Proofs.YtheknbfbneghgaaGreatDoor.Pp
open Go.RowKit Go.Proofs.YtheknbfbneghgaaGreatDoor.Lx Go.Proofs.YtheknbfbneghgaaGreatDoor.Px
def VT (w : World) : Prop := Vars w ∧ TabOk w
theorem VT.on {w w' : World} (h : VT w) (hb : Below w.heap.size w w') : VT w' := ⟨h.1.below h.1.lt hb, Lib.tabBelow_of_tabIs h.2 _ hb⟩
theorem blw {w w' : World} (h : w.grownBy w' none) : Below w.heap.size w w' := (Below.refl _ _).grown h lr (fun k e => by cases e)
/-- A tree as it is parsed out of a short text. -/
def PT (kids : List Tree) : Prop := OkT 8192 (.mk 1 [] 0 0 kids) ∧ sz (.mk 1 [] 0 0 kids) ≤ 300000 ∧ Jj.small (.mk 1 [] 0 0 kids) = true
theorem Parse4 (s : ByteArray) (w : World) (hv : VT w) (hs : s.size ≤ 4000) : Calls Tryz.prog 6 #[.string s] w fun e w' => Below w.heap.size w w' ∧
    ((∃ kids ao cp st k', e = .returned (.tuple #[.agg #[.int .i64 1, .string ⟨#[]⟩, .int .i64 0, .int .i64 0, .string ⟨#[]⟩, .int .i64 0, .slice ao kids.length cp], .agg #[.int .i64 0, .int .i64 0]]) ∧ Jj.KidsAt w' (.slice ao kids.length cp) kids ∧ PT kids ∧ (lexR s.toList).2.1 = 0 ∧ runF (lexR s.toList).1 = .ok [.mk 1 [] 0 0 kids] st k')
     ∨ ∃ a b : Int, e = .returned (.tuple #[.agg #[.int .i64 0, .string ⟨#[]⟩, .int .i64 0, .int .i64 0, .string ⟨#[]⟩, .int .i64 0, .slice none 0 0], .agg #[.int .i64 a, .int .i64 b]]) ∧ a ≠ 0 ∧ ((lexR s.toList).2.1 = 0 → ∃ p, runF (lexR s.toList).1 = .bad p)) := by
  refine (Parse_any s w hv.1).mono ?_
  rintro e w' ⟨hb, hp⟩
  refine ⟨hb, ?_⟩
  rcases hp with ⟨h, rfl⟩ | ⟨h, kd, tx, nm, ps, kids, st, k', ao, cp, hr, rfl, hrow⟩ | ⟨h, p, hr, rfl⟩
  · exact .inr ⟨_, _, rfl, h, fun e => absurd e h⟩
  · left
    obtain ⟨⟨ks, he⟩, h1, h2, h3⟩ := parsed s.toList (by rw [yx]; exact hs) h _ _ _ _ hr
    simp only [Tree.mk.injEq] at he
    obtain ⟨rfl, rfl, rfl, rfl, rfl⟩ := he
    exact ⟨kids, ao, cp, st, k', rfl, Jj.KidsAt.of hrow lr, ⟨h1, h2, h3⟩, h, hr⟩
  · exact .inr ⟨4, p, rfl, by decide, fun _ => ⟨p, hr⟩⟩
def ancL : List UInt8 := [102, 117, 110, 99, 32, 109, 97, 105, 110, 40, 41, 123, 120, 58, 61, 49, 43, 50, 42, 121, 59, 105, 102, 32, 120, 62, 51, 123, 114, 101, 116, 117, 114, 110, 125, 125]
def ancP : List UInt8 := [102, 117, 110, 99, 32, 109, 97, 105, 110, 40, 41, 32, 123, 10, 9, 120, 32, 58, 61, 32, 40, 49, 32, 43, 32, 40, 50, 32, 42, 32, 121, 41, 41, 10, 9, 105, 102, 32, 40, 120, 32, 62, 32, 51, 41, 32, 123, 10, 9, 9, 114, 101, 116, 117, 114, 110, 10, 9, 125, 10, 125, 10]
def isP (D : Int → List UInt8) (r : R) : Bool := match r with
  | .ok [t] _ _ => pr D 2400010 .file 0 t == ancP
  | _ => false
def dig3 (v : Int) : List UInt8 := if v = 1 then [49] else if v = 2 then [50] else if v = 3 then [51] else Lib.itoa v
theorem itoa_3 : Lib.itoa = dig3 := by
  have h : ∀ k : Nat, k < 10 → Lib.itoa (k : Int) = [UInt8.ofNat (48 + k)] := fun k hk => by rw [Lib.itoa_nonneg, Lib.decDigits_one hk]
  funext v
  unfold dig3
  split
  · rename_i e; subst e; exact h 1 om
  · split
    · rename_i e; subst e; exact h 2 om
    · split
      · rename_i e; subst e; exact h 3 om
      · rfl
theorem anc_p : isP dig3 (runF (lexR ancL).1) = true := by kernel_rfl
theorem anc_prt {kids : List Tree} {st : Int} {k' : Nat} (h : runF (lexR ancL).1 = .ok [.mk 1 [] 0 0 kids] st k') : prt (.mk 1 [] 0 0 kids) = ancP := by
  have h2 := anc_p
  rw [h] at h2
  unfold prt
  rw [itoa_3]
  exact eq_of_beq h2
theorem anchor_any (w : World) (hv : VT w) : Calls Tryz.prog 5 #[] w fun e w' => e = .returned (.bool true) ∧ Below w.heap.size w w' := by
  have hl : (⟨ancL.toArray⟩ : ByteArray).toList = ancL := by kernel_rfl
  have HP := zm (Parse4 ⟨ancL.toArray⟩ w hv dc)
  have HV := zm hv
  clear hv
  go_enter Tryz.func5, Tryz.ntmps5
  go_wp2_with fail
  refine (zk HP).mono ?_
  rintro e w1 ⟨B1, hp⟩
  rw [hl] at hp
  rcases hp with ⟨kids, ao, cp, st, k', rfl, hk, ht, h0, hr⟩ | ⟨a, b, rfl, ha, hn⟩
  · have hv1 := (zk HV).on B1
    have hg1 : Below w1.heap.size w1 ((w1.alloc (nO 1 [] 0 0 ao kids.length cp)).alloc (.cells #[.int .i64 0, .int .i64 0] 27)) := ((Below.refl _ _).alloc lr _).alloc zK _
    have HF := zm (File_ok ((w1.alloc (nO 1 [] 0 0 ao kids.length cp)).alloc (.cells #[.int .i64 0, .int .i64 0] 27)) 1 [] 0 0 kids ao cp (hk.grown (grown_of rfl hg1)) (hv1.on hg1).2 ht.1 ht.2.1)
    rw [anc_prt hr] at HF
    have HB := zm (B1.trans (hg1.mono B1.size))
    clear hk ht hr hv1 hg1 hl HP
    rw [show (⟨ancP.toArray⟩ : ByteArray) = ⟨#[102, 117, 110, 99, 32, 109, 97, 105, 110, 40, 41, 32, 123, 10, 9, 120, 32, 58, 61, 32, 40, 49, 32, 43, 32, 40, 50, 32, 42, 32, 121, 41, 41, 10, 9, 105, 102, 32, 40, 120, 32, 62, 32, 51, 41, 32, 123, 10, 9, 9, 114, 101, 116, 117, 114, 110, 10, 9, 125, 10, 125, 10]⟩ from rfl] at HF
    go_wp2_with fail
    refine (zk HF).mono ?_
    rintro e w2 ⟨rfl, hg2⟩
    have hb2 := (zk HB).trans ((blw hg2).mono (zk HB).size)
    go_wp2
    exact bodyPost_ret (v := .bool true) (by simp [results, Tryz.results5, go_sem]) rfl ⟨rfl, hb2⟩
  · exfalso
    obtain ⟨p, hp⟩ := hn zG
    have h2 := anc_p
    rw [hp] at h2
    cases h2
end Go.Proofs.YtheknbfbneghgaaGreatDoor.Pp
