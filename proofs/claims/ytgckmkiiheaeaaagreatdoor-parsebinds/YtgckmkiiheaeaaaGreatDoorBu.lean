import Derived.Test.YtgckmkiiheaeaaaGreatDoorBz
import Derived.Maps.AppendAt
import Derived.Laws.IdiomStrings
import Derived.Laws.Concat
import Derived.Deep.QuietTactic
import Derived.BigQuiet
import Derived.Deep.RegionLaw
set_option linter.unusedVariables false
set_option linter.unusedSimpArgs false
namespace Go.Proofs.YtgckmkiiheaeaaaGreatDoor
open Go.RowKit Go.Proofs.YtgckmkiiheaeaaaGreatDoor.Lx Go.Proofs.YtgckmkiiheaeaaaGreatDoor.Px
theorem b_info3 : (Tryz.prog.info? 3).map (fun i => (i.zero, i.size, i.bytes)) = some (some (.int .i64 0), 1, 8) := by kernel_rfl
theorem b_info9 : (Tryz.prog.info? 9).map (fun i => (i.zero, i.size, i.bytes)) = some (some (.string ⟨#[]⟩), 1, 16) := by kernel_rfl
def IntsAt (w : World) (zs : List Int) (a : Option Addr) : Prop := ∀ j (h : j < zs.length), ∃ b off, a = some ⟨b, off, none⟩ ∧ b < w.heap.size ∧ w.cell? ⟨b, off + j, none⟩ = some (.int .i64 zs[j])
def natsZ (ks : List Nat) : List Int := ks.map fun (k : Nat) => (k : Int)
def intsV (ks : List Nat) : List Value := ks.map fun (k : Nat) => Value.int .i64 (k : Int)
def exV (us : List Ex) : List Value := us.map fun e => Value.string ⟨(strE e).toArray⟩
def nameK (i : Nat) : List UInt8 := [98, UInt8.ofNat (97 + i % 26)]
def rowX : Nat → List Nat → Rw
 | _, [] => []
 | i, k :: r => (opK k, .leaf (nameK i)) :: rowX (i + 1) r
def rowK : Nat → List Nat → Rk
 | _, [] => []
 | i, k :: r => (k, .leaf (nameK i)) :: rowK (i + 1) r
theorem rowK_rw : ∀ (ks : List Nat) (i : Nat), rwK (rowK i ks) = rowX i ks
 | [], i => rfl
 | k :: r, i => by rw [rowK, rwK_cons, rowX, rowK_rw r (i + 1)]
theorem rowK_us : ∀ (ks : List Nat) (i : Nat), (rowX i ks).map (·.2) = (rowK i ks).map (·.2)
 | [], i => rfl
 | k :: r, i => by rw [rowK, rowX, List.map_cons, List.map_cons, rowK_us r (i + 1)]
theorem rowK_ks : ∀ (ks : List Nat) (i : Nat), (rowK i ks).map (·.1) = ks
 | [], i => rfl
 | k :: r, i => by rw [rowK, List.map_cons, rowK_ks r (i + 1)]
theorem rowK_wt : ∀ (ks : List Nat) (i : Nat), wtR (rowK i ks) = ks.length
 | [], i => rfl
 | k :: r, i => by rw [rowK, wtR, rowK_wt r (i + 1), opsE, List.length_cons]; omega
theorem rowK_ok : ∀ (ks : List Nat) (i : Nat), (∀ k ∈ ks, k < 13) → OkK (rowK i ks)
 | [], i, _ => fun x hx => by simp [rowK] at hx
 | k :: r, i, h => fun x hx => by
   rcases List.mem_cons.1 hx with rfl | hx
   ·exact ⟨h k (List.mem_cons_self ..), .inr ⟨i, rfl⟩⟩
   ·exact rowK_ok r (i + 1) (fun k hk => h k (List.mem_cons_of_mem _ hk)) x hx
theorem rowK_dep : ∀ (ks : List Nat) (i : Nat), ∀ y ∈ rowK i ks, depE y.2 ≤ 38
 | [], i => fun y hy => by simp [rowK] at hy
 | k :: r, i => fun y hy => by
   rcases List.mem_cons.1 hy with rfl | hy
   ·simp [depE]
   ·exact rowK_dep r (i + 1) y hy
theorem rowK_len (ks : List Nat) (i : Nat) : (rowK i ks).length = ks.length := by
 have := congrArg List.length (rowK_ks ks i)
 rwa [List.length_map] at this
theorem rowX_snoc : ∀ (ks : List Nat) (i k : Nat), rowX i (ks ++ [k]) = rowX i ks ++ [(opK k, .leaf (nameK (i + ks.length)))]
 | [], i, k => rfl
 | x :: ks, i, k => by
   rw [List.cons_append, rowX, rowX, rowX_snoc ks (i + 1) k, List.cons_append, List.length_cons, show i + 1 + ks.length = i + (ks.length + 1) by omega]
theorem rowX_len : ∀ (ks : List Nat) (i : Nat), (strR (rowX i ks)).length ≤ 4 * ks.length
 | [], i => by simp [rowX, strR]
 | k :: r, i => by
   have h1 := rowX_len r (i + 1)
   have h2 := opK_len k
   rw [rowX, strR, List.length_append, List.length_append, List.length_cons]
   simp only [strE, nameK, List.length_cons, List.length_nil]
   omega
theorem strR_app : ∀ (a b : Rw), strR (a ++ b) = strR a ++ strR b
 | [], b => rfl
 | (o, v) :: a, b => by rw [List.cons_append, strR, strR, strR_app a b]; simp
theorem b_form {w : World} {base e size n : Nat} {v : Value} {xs : List Value} (h : w.ownsRow base e size v n xs) : ∃ ao cp, v = .slice ao n cp ∧ n ≤ cp ∧ (0 < n → ∃ g, ao = some ⟨g, 0, none⟩) := by
 rcases h.2 with ⟨h2, h3⟩ | ⟨g, cap, cur, h2, _, _, h5, _⟩
 ·exact ⟨none, 0, by rw [h2, h3], by omega, fun hn => by omega⟩
 ·exact ⟨_, cap, h2, h5, fun _ => ⟨g, rfl⟩⟩
theorem below_g {N : Nat} {a b c : World} {r : Option Nat} (h : Below N a b) (hg : b.grownBy c r) (hr : ∀ x, r = some x → N ≤ x) (hN : N ≤ b.heap.size) : Below N a c :=
 ⟨hg.os.trans h.os, hg.tape.trans h.tape, hg.output.trans h.output, Nat.le_trans h.size hg.size, fun k hk => (hg.block k (by omega) (fun e => by have := hr k e.symm; omega)).trans (h.block k hk)⟩
theorem b_own_ne {w : World} {b1 b2 s1 s2 n1 n2 e1 e2 : Nat} {v1 v2 : Value} {x1 x2 : List Value} (h1 : w.ownsRow b1 e1 s1 v1 n1 x1) (h2 : w.ownsRow b2 e2 s2 v2 n2 x2) (he : e1 ≠ e2) {k : Nat} (hk : v1.ownBlock = some k) : some k ≠ v2.ownBlock := by
 intro e
 rcases h1.2 with ⟨rfl, _⟩ | ⟨g, cap, cur, rfl, _, hg, _⟩
 ·simp [Value.ownBlock] at hk
 ·simp [Value.ownBlock] at hk
  subst hk
  rcases h2.2 with ⟨rfl, _⟩ | ⟨g', cap', cur', rfl, _, hg', _⟩
  ·simp [Value.ownBlock] at e
  ·simp [Value.ownBlock] at e
   subst e
   rw [hg] at hg'
   simp at hg'
   exact he hg'.2
def marksA : Array Value := #[.string ⟨#[124, 124]⟩, .string ⟨#[38, 38]⟩, .string ⟨#[61, 61]⟩, .string ⟨#[33, 61]⟩, .string ⟨#[60]⟩, .string ⟨#[60, 61]⟩, .string ⟨#[62]⟩, .string ⟨#[62, 61]⟩, .string ⟨#[43]⟩, .string ⟨#[45]⟩, .string ⟨#[42]⟩, .string ⟨#[47]⟩, .string ⟨#[37]⟩]
def levsA : Array Value := #[.int .i64 1, .int .i64 2, .int .i64 3, .int .i64 3, .int .i64 3, .int .i64 3, .int .i64 3, .int .i64 3, .int .i64 4, .int .i64 4, .int .i64 5, .int .i64 5, .int .i64 5]
theorem b_conv (w : World) (c : UInt8) : (convert 44 9 (.slice (some ⟨w.heap.size, 0, none⟩) 1 1)).run Tryz.prog (w.alloc (.cells #[.int .u8 (c.toNat : Int)] 5)) = .ok (.string ⟨#[c]⟩) (w.alloc (.cells #[.int .u8 (c.toNat : Int)] 5)) :=
 run_convert_bytes_back (P := Tryz.prog) _ 44 9 5 ⟨w.heap.size, 0, none⟩ 1 [c] Tryz.underlying44 Tryz.underlying5 Tryz.underlying9 fun j hj => by
  have : j = 0 := by simp at hj; omega
  subst this
  exact cell_one_new w _ 5 0 _ rfl
theorem b_hlt {w : World} {b : Nat} {o : Obj} (h : w.heap[b]? = some o) : b < w.heap.size := by
 rcases Nat.lt_or_ge b w.heap.size with h1 | h1
 ·exact h1
 ·rw [Array.getElem?_eq_none h1] at h; exact absurd h (by simp)
theorem b_add (g j : Nat) : (⟨g, 0, none⟩ : Addr).add j = ⟨g, j, none⟩ := by
 cases j <;> simp [Addr.add]
theorem cell_one_new2 (w : World) (o : Obj) (x : Value) (t : TypeId) : ∀ j u, [x][j]? = some u → ((w.alloc o).alloc (.cells #[x] t)).cell? ((⟨w.heap.size + 1, 0, none⟩ : Addr).add j) = some u := by
 have h := cell_one_new (w.alloc o) x t
 rw [show (w.alloc o).heap.size = w.heap.size + 1 by simp] at h
 exact h
theorem marks_at {w : World} {b k : Nat} (h : w.heap[b]? = some (.cells marksA 9)) (hk : k < 13) : w.cell? ⟨b, k, none⟩ = some (.string ⟨(opK k).toArray⟩) := by
 rw [World.cell?, h]
 have : ∀ k, k < 13 → marksA[k]? = some (.string ⟨(opK k).toArray⟩) := by
  intro k hk
  match k, hk with
  | 0, _ | 1, _ | 2, _ | 3, _ | 4, _ | 5, _ | 6, _ | 7, _ | 8, _ | 9, _ | 10, _ | 11, _ | 12, _ => rfl
 simpa using this k hk
theorem levs_at {w : World} {b k : Nat} (h : w.heap[b]? = some (.cells levsA 3)) (hk : k < 13) : w.cell? ⟨b, k, none⟩ = some (.int .i64 (strength (opK k))) := by
 rw [World.cell?, h]
 have : ∀ k, k < 13 → levsA[k]? = some (.int .i64 (strength (opK k))) := by
  intro k hk
  match k, hk with
  | 0, _ | 1, _ | 2, _ | 3, _ | 4, _ | 5, _ | 6, _ | 7, _ | 8, _ | 9, _ | 10, _ | 11, _ | 12, _ => rfl
 simpa using this k hk
theorem step_own {P : Program} {w : World} {ops : Array Oper} {o : Oper} {a : Act} {K : Act → World → Prop} {Q : Exit → Act → World → Prop} {E : Prop} (hgd : o.guard = none) (s x : Operand) (t : TypeId)
 (ho : o.op = .call { callee := .builtin .append, args := #[s, x], argTypes := #[t, t] })
 (base : Nat) (e : TypeId) (i : TypeInfo) (z : Value) (size bytes : Nat) (ht : P.underlying t = some (.slice e)) (hi : P.info? e = some i) (hz : i.zero = some z)
 (hsize : i.size = size) (hby : i.bytes = bytes) (hzs : z.cells.size = size) (hsz : 0 < size)
 (v : Value) (n : Nat) (xs : List Value) (hs : a.eval s = v) (hown : w.ownsRow base e size v n xs)
 (ad : Addr) (m c : Nat) (news : List Value) (hx : a.eval x = .slice (some ad) m c) (hl : news.length = m * size) (hnews : ∀ j u, news[j]? = some u → w.cell? (ad.add j) = some u) (h1 : ∀ u ∈ news, u.oneCell' = true)
 (h63 : n + m ≤ maxLen) (hbytes : (n + m) * bytes ≤ 140737488355328) (hbase : base ≤ w.heap.size)
 (h : ∀ ao cp w', w'.ownsRow base e size (.slice ao (n + m) cp) (n + m) (xs ++ news) → w.grownBy w' v.ownBlock → K (a.put o.dst (.slice ao (n + m) cp)) w') : if Region.wanted o (yielded ops a.tmps) = true then Oper.wp P o a w K Q else E := by
 rw [if_pos (by simp [Region.wanted, hgd])]
 obtain ⟨v', w', hr, h2, h3, _, _⟩ := run_append_own_at (P := P) w base t o.type e i z size bytes ht hi hz hsize hby hzs hsz v n xs hown ad m c news hl hnews h1 h63 hbytes hbase
 obtain ⟨ao, cp, rfl, _, _⟩ := b_form h2
 unfold Oper.wp execOp
 simp only [ho, resolve, invoke, builtin, Sem.run_bind, Sem.run_pure, Result.andThen_ok, List.map_toArray, List.map_cons, List.map_nil, hs, hx, hr]
 exact h ao cp w' h2 h3
theorem one_ex (us : List Ex) : ∀ u ∈ exV us, u.oneCell' = true := by
 intro u hu
 obtain ⟨e, _, rfl⟩ := List.mem_map.1 hu
 simp [Value.oneCell']
theorem one_int (ks : List Nat) : ∀ u ∈ intsV ks, u.oneCell' = true := by
 intro u hu
 obtain ⟨e, _, rfl⟩ := List.mem_map.1 hu
 simp [Value.oneCell']
theorem row_news {w : World} {base e n : Nat} {g cp : Nat} {xs ys zs : List Value} (h : w.ownsRow base e 1 (.slice (some ⟨g, 0, none⟩) n cp) n xs) (hx : xs = ys ++ zs) : ∀ X, Below w.heap.size w X → ∀ j u, zs[j]? = some u → X.cell? ((⟨g, ys.length, none⟩ : Addr).add j) = some u := by
 intro X hX j u hj
 have h1 := h.cells (g := g) rfl (ys.length + j) u (by rw [hx, List.getElem?_append_right (by omega)]; simpa using hj)
 rw [b_add] at h1
 rw [show (⟨g, ys.length, none⟩ : Addr).add j = ⟨g, ys.length + j, none⟩ by cases j <;> simp [Addr.add]]
 exact (World.cell?_of_block (w := w) (a := ⟨g, ys.length + j, none⟩) (hX.block g (h.lt g rfl).2)).trans h1
theorem bh_drew (w : World) : w.drew.heap = w.heap := rfl
theorem bh_alloc (w : World) (o : Obj) : (w.alloc o).heap = w.heap.push o := rfl
theorem b_own_base {w : World} {base base' e size n : Nat} {v : Value} {xs : List Value} (h : w.ownsRow base e size v n xs) (hb : base' ≤ base) : w.ownsRow base' e size v n xs := by
 refine ⟨h.1, ?_⟩
 rcases h.2 with h2 | ⟨g, cap, cur, rfl, h3, h4⟩
 ·exact .inl h2
 ·exact .inr ⟨g, cap, cur, rfl, by omega, h4⟩
theorem one_news {X : World} {g0 e : Nat} {x : Value} (h : X.heap[g0]? = some (.cells #[x] e)) : ∀ j u, [x][j]? = some u → X.cell? ((⟨g0, 0, none⟩ : Addr).add j) = some u := by
 intro j u hj
 match j, hj with
 | 0, hj =>
   simp at hj
   subst hj
   rw [b_add, World.cell?, h]
   rfl
theorem own_empty {X : World} {b0 base e : Nat} (h : X.heap[b0]? = some (.cells #[] e)) (hb : base ≤ b0) : X.ownsRow base e 1 (.slice (some ⟨b0, 0, none⟩) 0 0) 0 [] :=
 ⟨rfl, .inr ⟨b0, 0, #[], rfl, hb, h, by omega, by decide, rfl, rfl⟩⟩
theorem small_er : ∀ t : Tree, Jj.small (er t) = Jj.small t
 | .mk a b c d l => by
   rw [er_mk, Jj.small, Jj.small, List.length_map, List.map_map]
   congr 2
   refine List.map_congr_left fun t ht => ?_
   exact small_er t
theorem small_tr : ∀ u : Ex, Jj.small (trE u) = true
 | .leaf x => by simp [trE, Jj.small]
 | .par o l r => by simp [trE, Jj.small, small_tr l, small_tr r]
theorem small_decl (u : Ex) : Jj.small (declB (trE u)) = true := by simp [declB, Jj.small, small_tr u]
def fa : ByteArray := ⟨#[102, 117, 110, 99, 32, 102, 40, 41, 32, 123, 32, 120, 32, 61, 32]⟩
def fz : ByteArray := ⟨#[32, 125]⟩
theorem toL_mk (l : List UInt8) : (ByteArray.mk l.toArray).toList = l := by
 apply List.ext_getElem?
 intro j
 rcases Nat.lt_or_ge j l.length with h | h
 ·rw [toL_get _ j (by simpa [ByteArray.size] using h), List.getElem?_eq_getElem h]
  rfl
 ·rw [List.getElem?_eq_none (by rw [toL_len]; simpa [ByteArray.size] using h), List.getElem?_eq_none h]
theorem src_str (x : List UInt8) : (ByteArray.mk #[102, 117, 110, 99, 32, 102, 40, 41, 32, 123, 32, 120, 32, 61, 32] ++ ⟨x.toArray⟩ ++ ⟨#[32, 125]⟩).toList = [102, 117, 110, 99, 32, 102, 40, 41, 32, 123, 32, 120, 32, 61, 32] ++ (x ++ [32, 125]) := by
 repeat rw [ByteArray.mk_append_mk]
 rw [toL_mk]
 simp
theorem good_src (u : Ex) (r : Rw) (x : List UInt8) (hx : x = strE u ++ strR r) (hu : okU u) (hr : okRw r) (hd : depE u ≤ 38) (hdr : ∀ x ∈ r, depE x.2 ≤ 38) (hl : x.length ≤ 8000) :
 ∃ d, er d = declB (trE (bind5 u r).1) ∧ Jj.Good (ByteArray.mk #[102, 117, 110, 99, 32, 102, 40, 41, 32, 123, 32, 120, 32, 61, 32] ++ ⟨x.toArray⟩ ++ ⟨#[32, 125]⟩).toList [d] := by
 have e : srcB u r = [102, 117, 110, 99, 32, 102, 40, 41, 32, 123, 32, 120, 32, 61, 32] ++ (x ++ [32, 125]) := by rw [srcB, hx, List.append_assoc]
 obtain ⟨h0, d, k, h1, h2⟩ := src_tree u r hu hr hd hdr (by rw [e]; simp; omega)
 rw [src_str, ← e]
 exact ⟨d, h1, h0, 0, k, h2⟩
theorem cells7 {X : World} {b t : Nat} {v0 v1 v2 v3 v4 v5 v6 : Value} (h : X.heap[b]? = some (.cells #[v0, v1, v2, v3, v4, v5, v6] t)) : X.cell? ⟨b, 0, none⟩ = some v0 ∧ X.cell? ⟨b, 1, none⟩ = some v1 ∧ X.cell? ⟨b, 2, none⟩ = some v2 ∧ X.cell? ⟨b, 3, none⟩ = some v3 ∧ X.cell? ⟨b, 4, none⟩ = some v4 ∧ X.cell? ⟨b, 5, none⟩ = some v5 ∧ X.cell? ⟨b, 6, none⟩ = some v6 := by
 refine ⟨?_, ?_, ?_, ?_, ?_, ?_, ?_⟩ <;> rw [World.cell?, h] <;> rfl
theorem cells2 {X : World} {b t : Nat} {v0 v1 : Value} (h : X.heap[b]? = some (.cells #[v0, v1] t)) : X.cell? ⟨b, 0, none⟩ = some v0 ∧ X.cell? ⟨b, 1, none⟩ = some v1 := by
 refine ⟨?_, ?_⟩ <;> rw [World.cell?, h] <;> rfl
theorem b_grown {a b : World} (h : Below a.heap.size a b) : a.grownBy b none := ⟨h.os, h.tape, h.output, h.size, fun k hk _ => h.block k hk⟩
theorem blk_alloc2 (w : World) (o o' : Obj) (k : Nat) (h : k < w.heap.size) : ((w.alloc o).alloc o').heap[k]? = w.heap[k]? := by
 rw [Below.heap_alloc _ _ _ (by simp; omega), Below.heap_alloc _ _ _ h]
theorem bind5_nil (u : Ex) : bind5 u [] = (u, []) := by simp [bind5, pass]
set_option maxRecDepth 100000 in
set_option maxHeartbeats 2000000 in
theorem binds_w (zs : List Int) (a : Option Addr) (cp : Nat) (w : World) (hv : Vars w) (hz : IntsAt w zs a) (hcp : zs.length ≤ cp) (hm : zs.length ≤ 9223372036854775807) :
 Calls Tryz.prog 6 #[.slice a zs.length cp] w fun e w' => e = .returned (.bool true) ∧ Below w.heap.size w w' := by
 have HA := hide (anchor_any w hv)
 have HV := hide hv
 have HZ := hide hz
 clear hv hz
 by_cases h30 : 30 < zs.length
 ·have h30z : (30 : Int) < zs.length := by omega
  go_enter Tryz.func6, Tryz.ntmps6
  go_wp2_with (go_at_call 7; refine (unhide HA).mono ?_; rintro e w1 ⟨rfl, hb1⟩; have HB1 := hide hb1; clear hb1)
  go_ret
  exact ⟨rfl, unhide HB1⟩
 have h30z : ¬ (30 : Int) < zs.length := by omega
 go_enter Tryz.func6, Tryz.ntmps6
 go_wp2_with (go_at_call 7; refine (unhide HA).mono ?_; rintro e w1 ⟨rfl, hb1⟩; have HB1 := hide hb1; clear hb1)
 have FM : (((w1.alloc (.cells marksA 9)).alloc (.cells levsA 3))).heap[w1.heap.size]? = some (.cells marksA 9) := blk_alloc (heap_alloc_new' _ _ rfl) _
 have FL : (((w1.alloc (.cells marksA 9)).alloc (.cells levsA 3))).heap[w1.heap.size + 1]? = some (.cells levsA 3) := heap_alloc_new' _ _ (by simp)
 have FB := ba2 (ba2 (unhide HB1) (.cells marksA 9)) (.cells levsA 3)
 have FV := (unhide HV).below (B := w.heap.size) (by have := (unhide HV).lt; omega) FB
 have FZ : IntsAt ((w1.alloc (.cells marksA 9)).alloc (.cells levsA 3)) zs a := fun j hj => by
  obtain ⟨b, off, e, h1, h2⟩ := unhide HZ j hj
  exact ⟨b, off, e, Nat.lt_of_lt_of_le h1 FB.size, (World.cell?_of_block (w := w) (a := ⟨b, off + j, none⟩) (FB.block b h1)).trans h2⟩
 change Code.wp Tryz.prog _ _ _ ((w1.alloc (.cells marksA 9)).alloc (.cells levsA 3))
 generalize (w1.alloc (.cells marksA 9)).alloc (.cells levsA 3) = W0 at FM FL FB FV FZ ⊢
 generalize w1.heap.size + 1 = Bl at FL ⊢
 generalize w1.heap.size = Bm at FM ⊢
 have HM := hide FM
 have HLv := hide FL
 have HB0 := hide FB
 have HV0 := hide FV
 have HZ0 := hide FZ
 clear FM FL FB FV FZ HA HV HZ HB1
 obtain ⟨i3, hi3, hz30, hz31, hz32⟩ := b_parts b_info3
 obtain ⟨i9, hi9, hz90, hz91, hz92⟩ := b_parts b_info9
 go_loopg [5, 29] (zs.length + 1) (fun g v5 v29 wr => ∃ (j : Nat) (ks : List Nat) (ao : Option Addr) (cq : Nat), g = zs.length + 1 - j ∧ j ≤ zs.length ∧ v29 = .int .i64 j ∧ v5 = .slice ao j cq ∧ Hid (zs.take j = natsZ ks ∧ ks.length = j ∧ ∀ k ∈ ks, k < 13) ∧ Hid (wr.ownsRow W0.heap.size 3 1 (.slice ao j cq) j (intsV ks)) ∧ Hid (Below W0.heap.size W0 wr))
 case atStart => exact ⟨0, [], none, 0, by omega, by omega, rfl, rfl, hide ⟨rfl, rfl, by simp⟩, hide (World.ownsRow_nil _ _ _ _), hide (Below.refl _ _)⟩
 case round =>
  obtain ⟨j, ks, ao, cq, rfl, hj, rfl, rfl, HKS, HO, HBr⟩ := hrel
  by_cases hlt : j < zs.length
  ·have hltz : (j : Int) < zs.length := by omega
   obtain ⟨b, off, ea, hbl, hc⟩ := unhide HZ0 j hlt
   subst ea
   have hc2 : wr.cell? ⟨b, off + j, none⟩ = some (.int .i64 zs[j]) := (World.cell?_of_block (w := W0) (a := ⟨b, off + j, none⟩) ((unhide HBr).block b hbl)).trans hc
   clear hc
   generalize hzj : zs[j] = z at hc2
   have HZJ := hide hzj
   clear hzj
   by_cases hneg : z < 0
   ·go_wp2
    go_ret
    exact ⟨rfl, (unhide HB0).trans ((unhide HBr).mono (unhide HB0).size)⟩
   by_cases hbig : 13 ≤ z
   ·go_wp2
    go_ret
    exact ⟨rfl, (unhide HB0).trans ((unhide HBr).mono (unhide HB0).size)⟩
   obtain ⟨k, rfl⟩ : ∃ k : Nat, z = k := ⟨z.toNat, by omega⟩
   have hk13 : k < 13 := by omega
   go_wp2_with (at_builtin; refine wpList_append_own_at _ rfl (.tmp 41) (.tmp 43) 42 rfl W0.heap.size 3 i3 _ 1 8 Tryz.underlying42 hi3 hz30 hz31 hz32 rfl (by decide) (.slice ao j cq) j (intsV ks) rfl (b_ownsRow (unhide HO) fun g hg => Below.heap_alloc _ _ _ ((unhide HO).lt g hg).2) ⟨wr.heap.size, 0, none⟩ 1 1 [.int .i64 (k : Int)] rfl rfl (cell_one_new _ _ _) (by simp [Value.oneCell']) (by unfold maxLen; omega) (by omega) (by have := (unhide HBr).size; simp; omega) ?_)
   intro v2 w2 hown2 hg2 hn2 hat2
   obtain ⟨ao2, cq2, rfl, hcq2, _⟩ := b_form hown2
   have hbn := (unhide HBr).size
   have HO2 := hide hown2
   have HB2 : Hid (Below W0.heap.size W0 w2) := hide (below_g ((unhide HBr).alloc hbn _) hg2 (fun x hx => ((unhide HO).lt x hx).1) (by simp; omega))
   clear hown2 hg2 hn2 hat2
   go_wp2
   go_roundg (zs.length + 1 - (j + 1))
   case measure => omega
   case rel =>
    have hks := unhide HKS
    refine ⟨j + 1, ks ++ [k], ao2, cq2, rfl, by omega, by go_num, rfl, hide ⟨?_, by rw [List.length_append, hks.2.1]; rfl, fun x hx => ?_⟩, ?_, HB2⟩
    ·rw [List.take_add_one, hks.1, List.getElem?_eq_getElem hlt, unhide HZJ]
     simp [natsZ]
    ·rcases List.mem_append.1 hx with h | h
     ·exact hks.2.2 x h
     ·simp at h; omega
    ·rw [show intsV (ks ++ [k]) = intsV ks ++ [.int .i64 (k : Int)] by simp [intsV]]
     exact HO2
  ·have hltz : ¬ (j : Int) < zs.length := by omega
   obtain rfl : j = zs.length := by omega
   have HKL : Hid (ks.length = zs.length ∧ ∀ k ∈ ks, k < 13) := hide ⟨(unhide HKS).2.1, (unhide HKS).2.2⟩
   have hks30 : ks.length ≤ 30 := by have := (unhide HKL).1; omega
   have HW1 : Hid ((wr.alloc (.cells #[.string ⟨#[97]⟩] 9)).ownsRow W0.heap.size 9 1 (.slice (some ⟨wr.heap.size, 0, none⟩) 1 1) 1 (exV [.leaf [97]]) ∧ (wr.alloc (.cells #[.string ⟨#[97]⟩] 9)).ownsRow W0.heap.size 3 1 (.slice ao zs.length cq) zs.length (intsV ks) ∧ Below W0.heap.size W0 (wr.alloc (.cells #[.string ⟨#[97]⟩] 9))) :=
    hide ⟨⟨rfl, .inr ⟨_, 1, _, rfl, (unhide HBr).size, heap_alloc_new' _ _ rfl, by omega, by decide, rfl, rfl⟩⟩, b_ownsRow (unhide HO) fun g hg => Below.heap_alloc _ _ _ ((unhide HO).lt g hg).2, (unhide HBr).alloc (unhide HBr).size _⟩
   clear HO HBr
   go_wp2
   go_loopg [8, 9, 49] (zs.length + 1) (fun g v8 v9 v49 wx => ∃ (j : Nat) (au : Option Addr) (cu : Nat), g = zs.length + 1 - j ∧ j ≤ zs.length ∧ v49 = .int .i64 j ∧ v8 = .string ⟨([97] ++ strR (rowX 0 (ks.take j))).toArray⟩ ∧ v9 = .slice au (j + 1) cu ∧
    Hid (wx.ownsRow W0.heap.size 9 1 (.slice au (j + 1) cu) (j + 1) (exV (.leaf [97] :: (rowX 0 (ks.take j)).map (·.2))) ∧ wx.ownsRow W0.heap.size 3 1 (.slice ao zs.length cq) zs.length (intsV ks) ∧ Below W0.heap.size W0 wx))
   case atStart => exact ⟨0, _, _, by omega, by omega, rfl, rfl, rfl, HW1⟩
   case round =>
    clear HW1
    obtain ⟨j, au, cu, rfl, hj, rfl, rfl, rfl, HX⟩ := hrel
    by_cases hlt : j < zs.length
    ·have hltz : (j : Int) < zs.length := by omega
     obtain ⟨ao', cq', eao, hcq', hgo⟩ := b_form (unhide HX).2.1
     injection eao with eao _ ecq
     subst eao ecq
     obtain ⟨g, rfl⟩ := hgo (by omega)
     clear hgo
     have hjk : j < ks.length := by have := (unhide HKL).1; omega
     have hrc : wr.cell? ⟨g, j, none⟩ = some (.int .i64 (ks[j] : Int)) := by
      have := (unhide HX).2.1.cells (g := g) rfl j (.int .i64 (ks[j] : Int)) (by simp [intsV, hjk])
      rw [b_add] at this
      exact this
     have hk13 : ks[j] < 13 := (unhide HKL).2 _ (List.getElem_mem hjk)
     have HKJ := hide (List.getElem?_eq_getElem hjk)
     have hmc : wr.cell? ⟨Bm, ks[j], none⟩ = some (.string ⟨(opK ks[j]).toArray⟩) := marks_at (((unhide HX).2.2.block Bm (b_hlt (unhide HM))).trans (unhide HM)) hk13
     generalize ks[j] = k at hrc hmc hk13 HKJ
     clear hjk
     have hk13z : (k : Int) < 13 := by omega
     obtain ⟨c, HC⟩ : ∃ c, Hid (c = UInt8.ofNat (97 + j % 26)) := ⟨_, hide rfl⟩
     have kc : (convert 44 9 (.slice (some ⟨wr.heap.size, 0, none⟩) 1 1)).run Tryz.prog (wr.alloc (.cells #[.int .u8 (97 + (j : Int) % 26)] 5)) = .ok (.string ⟨#[c]⟩) (wr.alloc (.cells #[.int .u8 (97 + (j : Int) % 26)] 5)) := by
      have h := b_conv wr (UInt8.ofNat (97 + j % 26))
      rw [show ((UInt8.ofNat (97 + j % 26)).toNat : Int) = 97 + (j : Int) % 26 by rw [UInt8.toNat_ofNat_of_lt' (by simp only [UInt8.size]; omega)]; omega] at h
      rw [unhide HC]
      exact h
     have hmc2 : (wr.alloc (.cells #[.int .u8 (97 + (j : Int) % 26)] 5)).cell? ⟨Bm, k, none⟩ = some (.string ⟨(opK k).toArray⟩) := (World.cell?_of_block (w := wr) (a := ⟨Bm, k, none⟩) (Below.heap_alloc _ _ _ (Nat.lt_of_lt_of_le (b_hlt (unhide HM)) (unhide HX).2.2.size))).trans hmc
     clear hmc
     have hopl : (opK k).length ≤ 2 := opK_len k
     have hstl : (strR (rowX 0 (ks.take j))).length ≤ 120 := by
      have := rowX_len (ks.take j) 0
      rw [List.length_take] at this
      omega
     go_wp2_with (at_builtin; refine wpList_append_own_at _ rfl (.tmp 69) (.tmp 71) 43 rfl W0.heap.size 9 i9 _ 1 16 Tryz.underlying43 hi9 hz90 hz91 hz92 rfl (by decide) (.slice au (j + 1) cu) (j + 1) _ rfl (b_ownsRow (b_ownsRow (unhide HX).1 fun g hg => Below.heap_alloc _ _ _ ((unhide HX).1.lt g hg).2) fun g hg => Below.heap_alloc _ _ _ (by have := ((unhide HX).1.lt g hg).2; simp; omega)) ⟨wr.heap.size + 1, 0, none⟩ 1 1 [.string (⟨#[98]⟩ ++ ⟨#[c]⟩)] rfl rfl (cell_one_new2 _ _ _ _) (by simp [Value.oneCell']) (by unfold maxLen; omega) (by omega) (by have := (unhide HX).2.2.size; simp; omega) ?_)
     intro v2 w2 hown2 hg2 hn2 hat2
     obtain ⟨ao2, cq2, rfl, hcq2, _⟩ := b_form hown2
     have hbn := (unhide HX).2.2.size
     have HX2 : Hid (w2.ownsRow W0.heap.size 9 1 (.slice ao2 (j + 1 + 1) cq2) (j + 1 + 1) (exV (.leaf [97] :: (rowX 0 (ks.take (j + 1))).map (·.2))) ∧ w2.ownsRow W0.heap.size 3 1 (.slice (some ⟨g, 0, none⟩) zs.length cq) zs.length (intsV ks) ∧ Below W0.heap.size W0 w2) := by
      refine hide ⟨?_, ?_, below_g (((unhide HX).2.2.alloc hbn _).alloc (by simp; omega) _) hg2 (fun x hx => ((unhide HX).1.lt x hx).1) (by simp; omega)⟩
      ·have e : exV (.leaf [97] :: (rowX 0 (ks.take (j + 1))).map (·.2)) = exV (.leaf [97] :: (rowX 0 (ks.take j)).map (·.2)) ++ [.string (⟨#[98]⟩ ++ ⟨#[c]⟩)] := by
        rw [List.take_add_one, unhide HKJ, Option.toList_some, rowX_snoc, List.map_append, unhide HC, show (ks.take j).length = j by rw [List.length_take]; have := (unhide HKL).1; omega]
        simp only [exV, List.map_cons, List.map_append, List.map_nil, List.cons_append, strE, nameK, Nat.zero_add]
        rw [ByteArray.mk_append_mk [98] [_]]
        rfl
       rw [e]
       exact hown2
      ·refine b_ownsRow (unhide HX).2.1 fun x hx => ?_
       have hxl := ((unhide HX).2.1.lt x hx).2
       rw [hg2.block x (by simp; omega) (b_own_ne (unhide HX).2.1 (unhide HX).1 (by decide) hx), Below.heap_alloc _ _ _ (by simp; omega), Below.heap_alloc _ _ _ hxl]
     clear hown2 hg2 hn2 hat2
     go_wp2
     go_roundg (zs.length + 1 - (j + 1))
     case measure => omega
     case rel =>
      refine ⟨j + 1, ao2, cq2, rfl, by omega, by go_num, ?_, rfl, HX2⟩
      rw [List.take_add_one, unhide HKJ, Option.toList_some, rowX_snoc, strR_app, unhide HC, show (ks.take j).length = j by rw [List.length_take]; have := (unhide HKL).1; omega]
      rw [ByteArray.mk_append_mk [98] [_], ByteArray.mk_append_mk, ByteArray.mk_append_mk]
      simp [strR, strE, nameK]
    ·have hltz : ¬ (j : Int) < zs.length := by omega
     obtain rfl : j = zs.length := by omega
     have hkt : ks.take zs.length = ks := List.take_of_length_le (by have := (unhide HKL).1; omega)
     rw [hkt] at HX ⊢
     obtain ⟨T, HT⟩ : ∃ T, Hid (T = bind5 (.leaf [97]) (rowX 0 ks)) := ⟨_, hide rfl⟩
     have HO0 : Hid (Out 5 T (.leaf [97]) (rowK 0 ks)) := hide ⟨by rw [unhide HT, rowK_rw]; exact passes5 _ _, .inl rfl, rowK_ok _ _ (unhide HKL).2, by rw [rowK_wt, opsE]; omega⟩
     have HX1 : Hid (wr.ownsRow W0.heap.size 9 1 (.slice au (zs.length + 1) cu) (zs.length + 1) (exV (.leaf [97] :: (rowK 0 ks).map (·.2))) ∧ wr.ownsRow W0.heap.size 3 1 (.slice ao zs.length cq) zs.length (intsV ((rowK 0 ks).map (·.1))) ∧ Below W0.heap.size W0 wr) := by
      rw [rowK_ks, ← rowK_us]
      exact HX
     clear HX hkt
     go_wp2
     go_loopg [5, 9, 13] 6 (fun g v5 v9 v13 wx => ∃ (l : Nat) (u : Ex) (R : Rk) (ao au : Option Addr) (cq cu : Nat), g = l + 1 ∧ l ≤ 5 ∧ v13 = .int .i64 l ∧ v5 = .slice ao R.length cq ∧ v9 = .slice au (R.length + 1) cu ∧ Hid (Out l T u R) ∧
      Hid (wx.ownsRow W0.heap.size 9 1 (.slice au (R.length + 1) cu) (R.length + 1) (exV (u :: R.map (·.2))) ∧ wx.ownsRow W0.heap.size 3 1 (.slice ao R.length cq) R.length (intsV (R.map (·.1))) ∧ Below W0.heap.size W0 wx))
     case atStart =>
      have e : (rowK 0 ks).length = zs.length := by rw [rowK_len]; exact (unhide HKL).1
      refine ⟨5, _, rowK 0 ks, ao, au, cq, cu, rfl, by omega, rfl, by rw [e], by rw [e], HO0, ?_⟩
      rw [e]
      exact HX1
     case round =>
      clear HX1 HO0
      obtain ⟨l, u0, R0, ao, au, cq, cu, rfl, hl5, rfl, rfl, rfl, HOut, HX⟩ := hrel
      by_cases hl : 1 ≤ l
      ·obtain ⟨l, rfl⟩ : ∃ m, l = m + 1 := ⟨l - 1, by omega⟩
       have hlz : (1 : Int) ≤ ((l + 1 : Nat) : Int) := by omega
       have HM0 : Hid (Mid (l + 1) (pass ((l + 1 : Nat) : Int) u0 (rwK R0)) [] u0 R0) := hide ((unhide HOut).mid (l + 1))
       obtain ⟨T1, HT1⟩ : ∃ T1, Hid (T1 = pass ((l + 1 : Nat) : Int) u0 (rwK R0)) := ⟨_, hide rfl⟩
       rw [← unhide HT1] at HM0
       have hl5z : ((l + 1 : Nat) : Int) ≤ 5 := by omega
       generalize hL : ((l + 1 : Nat) : Int) = L at hlz hl5z ⊢
       have HL := hide hL
       clear hL
       go_wp2
       go_loopg [5, 9, 14] (R0.length + 1) (fun g v5 v9 v14 wx => ∃ (A : List (Ex × Nat)) (u : Ex) (R : Rk) (ao au : Option Addr) (cq cu : Nat), g = R.length + 1 ∧ v14 = .int .i64 A.length ∧ v5 = .slice ao (A.length + R.length) cq ∧ v9 = .slice au (A.length + R.length + 1) cu ∧ Hid (Mid (l + 1) T1 A u R) ∧
        Hid (wx.ownsRow W0.heap.size 9 1 (.slice au (A.length + R.length + 1) cu) (A.length + R.length + 1) (exV (A.map (·.1) ++ u :: R.map (·.2))) ∧ wx.ownsRow W0.heap.size 3 1 (.slice ao (A.length + R.length) cq) (A.length + R.length) (intsV (A.map (·.2) ++ R.map (·.1))) ∧ Below W0.heap.size W0 wx))
       case atStart =>
        refine ⟨[], u0, R0, ao, au, cq, cu, rfl, rfl, by simp, by simp, HM0, ?_⟩
        simpa using HX
       case round =>
        clear HX HM0
        obtain ⟨A, u, R, ao, au, cq, cu, rfl, rfl, rfl, rfl, HMid, HX⟩ := hrel
        have hAl : A.length ≤ 30 := by
         have := (unhide HMid).wt
         have := wtA_len A
         omega
        cases R with
        | nil =>
          have hge : ¬ ((A.length : Int) < A.length) := by omega
          go_wp2
          go_roundg (l + 1)
          case measure => omega
          case rel =>
           have hM := unhide HMid
           rw [unhide HT1] at hM
           have hX := unhide HX
           simp only [List.map_nil, List.append_nil, List.length_nil, Nat.add_zero] at hX
           rw [toR_us, toR_ks A u] at hX
           refine ⟨l, (toR A u).1, (toR A u).2, ao, au, cq, cu, rfl, by omega, by rw [← unhide HL]; go_num, by rw [toR_len], by rw [toR_len], hide (hM.out (unhide HOut)), ?_⟩
           rw [toR_len]
           exact hide hX
        | cons kv R =>
          obtain ⟨k, v⟩ := kv
          have hRl : R.length ≤ 30 := by
           have := (unhide HMid).wt
           have := wtR_len R
           simp only [wtR] at *
           omega
          have hlt : (A.length : Int) < ((A.length + (R.length + 1) : Nat) : Int) := by omega
          have hlt2 : ((A.length + 1 : Nat) : Int) < ((A.length + (R.length + 1) + 1 : Nat) : Int) := by omega
          rw [List.length_cons] at HX ⊢
          obtain ⟨ao', cq', eao, hcq', hgo⟩ := b_form (unhide HX).2.1
          injection eao with eao _ ecq
          subst eao ecq
          obtain ⟨g3, rfl⟩ := hgo (by omega)
          obtain ⟨au', cu', eau, hcu', hgu⟩ := b_form (unhide HX).1
          injection eau with eau _ ecu
          subst eau ecu
          obtain ⟨g9, rfl⟩ := hgu (by omega)
          clear hgo hgu
          have hrc : wr.cell? ⟨g3, A.length, none⟩ = some (.int .i64 (k : Int)) := by
           have := (unhide HX).2.1.cells (g := g3) rfl A.length (.int .i64 (k : Int)) (by simp [intsV])
           rwa [b_add] at this
          have huc : wr.cell? ⟨g9, A.length, none⟩ = some (.string ⟨(strE u).toArray⟩) := by
           have := (unhide HX).1.cells (g := g9) rfl A.length (.string ⟨(strE u).toArray⟩) (by simp [exV])
           rwa [b_add] at this
          have huc2 : wr.cell? ⟨g9, A.length + 1, none⟩ = some (.string ⟨(strE v).toArray⟩) := by
           have := (unhide HX).1.cells (g := g9) rfl (A.length + 1) (.string ⟨(strE v).toArray⟩) (by simp [exV, List.getElem?_append])
           rwa [b_add] at this
          have hk13 : k < 13 := ((unhide HMid).r (k, v) (List.mem_cons_self ..)).1
          have hk13z : (k : Int) < 13 := by omega
          have hmc : wr.cell? ⟨Bm, k, none⟩ = some (.string ⟨(opK k).toArray⟩) := marks_at (((unhide HX).2.2.block Bm (b_hlt (unhide HM))).trans (unhide HM)) hk13
          have hlc : wr.cell? ⟨Bl, k, none⟩ = some (.int .i64 (strength (opK k))) := levs_at (((unhide HX).2.2.block Bl (b_hlt (unhide HLv))).trans (unhide HLv)) hk13
          generalize hst : strength (opK k) = st at hlc
          have HST := hide hst
          clear hst
          by_cases hsl : st = L
          ·have HSL := hide hsl
           have hopl : (opK k).length ≤ 2 := opK_len k
           have hul : (strE u).length ≤ 182 := by
            have := len_ops u (unhide HMid).ou
            have := (unhide HMid).wt
            omega
           have hvl : (strE v).length ≤ 182 := by
            have := len_ops v ((unhide HMid).r (k, v) (List.mem_cons_self ..)).2
            have := (unhide HMid).wt
            simp only [wtR] at this
            omega
           go_wp2
           go_quiet (fail)
           rw [show (⟨#[40]⟩ ++ ⟨(strE u).toArray⟩ ++ ⟨(opK k).toArray⟩ ++ ⟨(strE v).toArray⟩ ++ ⟨#[41]⟩ : ByteArray) = ⟨(strE (.par (opK k) u v)).toArray⟩ by
            repeat rw [ByteArray.mk_append_mk]
            rfl]
           have HX5 : Hid ((wr.drewN nq).ownsRow W0.heap.size 9 1 (.slice (some ⟨g9, 0, none⟩) (A.length + (R.length + 1) + 1) cu) (A.length + (R.length + 1) + 1) (exV (A.map (·.1)) ++ (exV [u, v] ++ exV (R.map (·.2)))) ∧ (wr.drewN nq).ownsRow W0.heap.size 3 1 (.slice (some ⟨g3, 0, none⟩) (A.length + (R.length + 1)) cq) (A.length + (R.length + 1)) (intsV (A.map (·.2)) ++ (intsV [k] ++ intsV (R.map (·.1)))) ∧ Below W0.heap.size W0 (wr.drewN nq)) := by
            have hX := unhide HX
            simp only [exV, intsV, List.map_append, List.map_cons, List.map_nil, List.cons_append, List.nil_append] at hX ⊢
            exact hide ⟨b_ownsRow hX.1 fun _ _ => rfl, b_ownsRow hX.2.1 fun _ _ => rfl, ⟨hX.2.2.os, hX.2.2.tape, hX.2.2.output, hX.2.2.size, hX.2.2.block⟩⟩
           obtain ⟨q, HQ⟩ : ∃ q, Hid (q = Ex.par (opK k) u v) := ⟨_, hide rfl⟩
           rw [← unhide HQ]
           clear hrc huc huc2 hmc hlc HX hul hvl hopl
           generalize wr.drewN nq = w5 at HX5 ⊢
           have HN1 : Hid (∀ X, Below w5.heap.size w5 X → ∀ j x, (exV (A.map (·.1)))[j]? = some x → X.cell? ((⟨g9, 0, none⟩ : Addr).add j) = some x) := hide fun X hX j x hj => by
            have hj' := (List.getElem?_eq_some_iff.1 hj).1
            exact row_news (ys := []) (unhide HX5).1 rfl X hX j x (by
             show ((exV (A.map (·.1))) ++ (exV [u, v] ++ exV (R.map (·.2))))[j]? = some x
             rw [List.getElem?_append_left hj']; exact hj)
           have HN2 : Hid (∀ X, Below w5.heap.size w5 X → ∀ j x, (exV (R.map (·.2)))[j]? = some x → X.cell? ((if cu = A.length + 2 then (⟨g9, 0, none⟩ : Addr) else ⟨g9, A.length + 2, none⟩).add j) = some x) := hide fun X hX j x hj => by
            have hj' := (List.getElem?_eq_some_iff.1 hj).1
            have hR : 0 < R.length := by simp [exV] at hj'; omega
            rw [if_neg (by omega)]
            have := row_news (ys := exV (A.map (·.1)) ++ exV [u, v]) (unhide HX5).1 (by rw [List.append_assoc]) X hX j x hj
            rw [show (exV (A.map (·.1)) ++ exV [u, v]).length = A.length + 2 by simp [exV]] at this
            exact this
           have hb5 := (unhide HX5).2.2.size
           have hAcu : A.length ≤ cu := by omega
           have hAcu2 : A.length + 2 ≤ cu := by omega
           have hw2 : IntKind.i64.wrap ((A.length : Int) + 2) = (A.length : Int) + 2 := IntWalk.i64_in _ (by omega)
           have hw2t : ((A.length : Int) + 2).toNat = A.length + 2 := by omega
           have hw2z : 0 ≤ (A.length : Int) + 2 := by omega
           have hw2l : (A.length : Int) + 2 ≤ (A.length : Int) + ((R.length : Int) + 1) + 1 := by omega
           go_wp2
           go_region_law (first
            | (refine step_own rfl (.tmp 113) (.tmp 116) 43 rfl w5.heap.size 9 i9 _ 1 16 Tryz.underlying43 hi9 hz90 hz91 hz92 rfl (by decide) (.slice (some ⟨w5.heap.size, 0, none⟩) 0 0) 0 [] rfl (own_empty (by first | exact heap_alloc_new' _ _ rfl | (simp only [bh_drew, bh_alloc, Array.getElem?_push, Array.size_push]; done) | (simp only [bh_drew, bh_alloc, Array.getElem?_push, Array.size_push]; simp; done)) (by omega)) ⟨g9, 0, none⟩ A.length cu (exV (A.map (·.1))) (by simp [Act.eval]; done) (by simp [exV]) (unhide HN1 _ (by (repeat' (first | exact Below.refl _ _ | refine Below.drew ?_ | refine ba2 ?_ _)))) (one_ex _) (by unfold maxLen; omega) (by omega) (by first | (simp; done) | (simp; omega)) ?_; intro ao1 cp1 w6 hown1 hg1; rw [Nat.zero_add, List.nil_append] at hown1; have HO1 := hide hown1; have HB6 : Hid (Below w5.heap.size w5 w6) := hide (below_g (by (repeat' (first | exact Below.refl _ _ | refine Below.drew ?_ | refine ba2 ?_ _))) hg1 (fun x hx => by simp [Value.ownBlock] at hx; omega) (by first | (simp; done) | (simp; omega))); have HG := hide hg1; clear hown1 hg1; rw [Nat.zero_add])
            | (refine step_own rfl (.tmp 113) (.tmp 116) 43 rfl w5.heap.size 9 i9 _ 1 16 Tryz.underlying43 hi9 hz90 hz91 hz92 rfl (by decide) (.slice (some ⟨w5.heap.size + 1, 0, none⟩) 0 0) 0 [] rfl (own_empty (by first | exact heap_alloc_new' _ _ rfl | (simp only [bh_drew, bh_alloc, Array.getElem?_push, Array.size_push]; done) | (simp only [bh_drew, bh_alloc, Array.getElem?_push, Array.size_push]; simp; done)) (by omega)) ⟨g9, 0, none⟩ A.length cu (exV (A.map (·.1))) (by simp [Act.eval]; done) (by simp [exV]) (unhide HN1 _ (by (repeat' (first | exact Below.refl _ _ | refine Below.drew ?_ | refine ba2 ?_ _)))) (one_ex _) (by unfold maxLen; omega) (by omega) (by first | (simp; done) | (simp; omega)) ?_; intro ao1 cp1 w6 hown1 hg1; rw [Nat.zero_add, List.nil_append] at hown1; have HO1 := hide hown1; have HB6 : Hid (Below w5.heap.size w5 w6) := hide (below_g (by (repeat' (first | exact Below.refl _ _ | refine Below.drew ?_ | refine ba2 ?_ _))) hg1 (fun x hx => by simp [Value.ownBlock] at hx; omega) (by first | (simp; done) | (simp; omega))); have HG := hide hg1; clear hown1 hg1; rw [Nat.zero_add])
            | (refine step_own rfl (.tmp 117) (.tmp 119) 43 rfl w5.heap.size 9 i9 _ 1 16 Tryz.underlying43 hi9 hz90 hz91 hz92 rfl (by decide) (.slice ao1 A.length cp1) A.length (exV (A.map (·.1))) (by simp [Act.eval]; done) (b_ownsRow (unhide HO1) fun g hg => ((by (repeat' (first | exact Below.refl _ _ | refine Below.drew ?_ | refine ba2 ?_ _))) : Below w6.heap.size w6 _).block g ((unhide HO1).lt g hg).2) ⟨w6.heap.size, 0, none⟩ 1 1 [.string ⟨(strE q).toArray⟩] rfl rfl (one_news (e := 9) (by first | exact heap_alloc_new' _ _ rfl | (simp only [bh_drew, bh_alloc, Array.getElem?_push, Array.size_push]; done) | (simp only [bh_drew, bh_alloc, Array.getElem?_push, Array.size_push]; simp; done))) (by simp [Value.oneCell']) (by unfold maxLen; omega) (by omega) (by have := (unhide HB6).size; first | (simp; done) | (simp; omega) | omega) ?_; intro ao2 cp2 w7 hown2 hg2; have HO2 := hide hown2; have HB7 : Hid (Below w5.heap.size w5 w7) := hide (below_g ((unhide HB6).trans (((by (repeat' (first | exact Below.refl _ _ | refine Below.drew ?_ | refine ba2 ?_ _))) : Below w6.heap.size w6 _).mono (unhide HB6).size)) hg2 (fun x hx => ((unhide HO1).lt x hx).1) (by have := (unhide HB6).size; first | (simp; done) | (simp; omega) | omega)); clear hown2 hg2)
            | (refine step_own rfl (.tmp 117) (.tmp 119) 43 rfl w5.heap.size 9 i9 _ 1 16 Tryz.underlying43 hi9 hz90 hz91 hz92 rfl (by decide) (.slice ao1 A.length cp1) A.length (exV (A.map (·.1))) (by simp [Act.eval]; done) (b_ownsRow (unhide HO1) fun g hg => ((by (repeat' (first | exact Below.refl _ _ | refine Below.drew ?_ | refine ba2 ?_ _))) : Below w6.heap.size w6 _).block g ((unhide HO1).lt g hg).2) ⟨w5.heap.size + 1, 0, none⟩ 1 1 [.string ⟨(strE q).toArray⟩] rfl rfl (one_news (e := 9) (((unhide HG).block _ (by first | (simp; done) | (simp; omega)) (by simp [Value.ownBlock]; done)).trans (by first | exact heap_alloc_new' _ _ rfl | (simp only [bh_drew, bh_alloc, Array.getElem?_push, Array.size_push]; done) | (simp only [bh_drew, bh_alloc, Array.getElem?_push, Array.size_push]; simp; done)))) (by simp [Value.oneCell']) (by unfold maxLen; omega) (by omega) (by have := (unhide HB6).size; first | (simp; done) | (simp; omega) | omega) ?_; intro ao2 cp2 w7 hown2 hg2; have HO2 := hide hown2; have HB7 : Hid (Below w5.heap.size w5 w7) := hide (below_g ((unhide HB6).trans (((by (repeat' (first | exact Below.refl _ _ | refine Below.drew ?_ | refine ba2 ?_ _))) : Below w6.heap.size w6 _).mono (unhide HB6).size)) hg2 (fun x hx => ((unhide HO1).lt x hx).1) (by have := (unhide HB6).size; first | (simp; done) | (simp; omega) | omega)); clear hown2 hg2)
            | (refine step_own rfl (.tmp 117) (.tmp 119) 43 rfl w5.heap.size 9 i9 _ 1 16 Tryz.underlying43 hi9 hz90 hz91 hz92 rfl (by decide) (.slice ao1 A.length cp1) A.length (exV (A.map (·.1))) (by simp [Act.eval]; done) (b_ownsRow (unhide HO1) fun g hg => ((by (repeat' (first | exact Below.refl _ _ | refine Below.drew ?_ | refine ba2 ?_ _))) : Below w6.heap.size w6 _).block g ((unhide HO1).lt g hg).2) ⟨w5.heap.size, 0, none⟩ 1 1 [.string ⟨(strE q).toArray⟩] rfl rfl (one_news (e := 9) (((unhide HG).block _ (by first | (simp; done) | (simp; omega)) (by simp [Value.ownBlock]; done)).trans (by first | exact heap_alloc_new' _ _ rfl | (simp only [bh_drew, bh_alloc, Array.getElem?_push, Array.size_push]; done) | (simp only [bh_drew, bh_alloc, Array.getElem?_push, Array.size_push]; simp; done)))) (by simp [Value.oneCell']) (by unfold maxLen; omega) (by omega) (by have := (unhide HB6).size; first | (simp; done) | (simp; omega) | omega) ?_; intro ao2 cp2 w7 hown2 hg2; have HO2 := hide hown2; have HB7 : Hid (Below w5.heap.size w5 w7) := hide (below_g ((unhide HB6).trans (((by (repeat' (first | exact Below.refl _ _ | refine Below.drew ?_ | refine ba2 ?_ _))) : Below w6.heap.size w6 _).mono (unhide HB6).size)) hg2 (fun x hx => ((unhide HO1).lt x hx).1) (by have := (unhide HB6).size; first | (simp; done) | (simp; omega) | omega)); clear hown2 hg2)
            | (refine step_own rfl (.tmp 120) (.tmp 124) 43 rfl w5.heap.size 9 i9 _ 1 16 Tryz.underlying43 hi9 hz90 hz91 hz92 rfl (by decide) (.slice ao2 (A.length + 1) cp2) (A.length + 1) (exV (A.map (·.1)) ++ [.string ⟨(strE q).toArray⟩]) (by simp [Act.eval]; done) (b_ownsRow (unhide HO2) fun g hg => ((by (repeat' (first | exact Below.refl _ _ | refine Below.drew ?_ | refine ba2 ?_ _))) : Below w7.heap.size w7 _).block g ((unhide HO2).lt g hg).2) (if cu = A.length + 2 then ⟨g9, 0, none⟩ else ⟨g9, A.length + 2, none⟩) R.length (cu - (A.length + 2)) (exV (R.map (·.2))) (by simp [Act.eval]; first | done | (split <;> simp <;> omega) | omega) (by simp [exV]; done) (unhide HN2 _ ((unhide HB7).trans (((by (repeat' (first | exact Below.refl _ _ | refine Below.drew ?_ | refine ba2 ?_ _))) : Below w7.heap.size w7 _).mono (unhide HB7).size))) (one_ex _) (by unfold maxLen; omega) (by omega) (by have := (unhide HB7).size; first | (simp; done) | (simp; omega) | omega) ?_; intro ao3 cp3 w8 hown3 hg3; have HO3 := hide hown3; have HB8 : Hid (Below w5.heap.size w5 w8) := hide (below_g ((unhide HB7).trans (((by (repeat' (first | exact Below.refl _ _ | refine Below.drew ?_ | refine ba2 ?_ _))) : Below w7.heap.size w7 _).mono (unhide HB7).size)) hg3 (fun x hx => ((unhide HO2).lt x hx).1) (by have := (unhide HB7).size; first | (simp; done) | (simp; omega) | omega)); clear hown3 hg3))
           all_goals
            have HX8 : Hid (w8.ownsRow W0.heap.size 9 1 (.slice ao3 (A.length + 1 + R.length) cp3) (A.length + 1 + R.length) (exV (A.map (·.1) ++ q :: R.map (·.2))) ∧ w8.ownsRow W0.heap.size 3 1 (.slice (some ⟨g3, 0, none⟩) (A.length + (R.length + 1)) cq) (A.length + (R.length + 1)) (intsV (A.map (·.2)) ++ (intsV [k] ++ intsV (R.map (·.1)))) ∧ Below W0.heap.size W0 w8) := by
             have h5 := unhide HX5
             have h8 := unhide HB8
             have e : exV (A.map (·.1) ++ q :: R.map (·.2)) = exV (A.map (·.1)) ++ [.string ⟨(strE q).toArray⟩] ++ exV (R.map (·.2)) := by simp [exV]
             rw [e]
             exact hide ⟨b_own_base (unhide HO3) hb5, b_ownsRow h5.2.1 (fun g hg => h8.block g (h5.2.1.lt g hg).2), h5.2.2.trans (h8.mono hb5)⟩
            clear HO3 HB8 HN1 HN2 HO1 HO2 HB6 HB7 HG HX5 hw2 hw2t hw2z hw2l hb5
            have HN3 : Hid (∀ X, Below w8.heap.size w8 X → ∀ j x, (intsV (A.map (·.2)))[j]? = some x → X.cell? ((⟨g3, 0, none⟩ : Addr).add j) = some x) := hide fun X hX j x hj => by
             have hj' := (List.getElem?_eq_some_iff.1 hj).1
             exact row_news (ys := []) (unhide HX8).2.1 rfl X hX j x (by
              show ((intsV (A.map (·.2))) ++ (intsV [k] ++ intsV (R.map (·.1))))[j]? = some x
              rw [List.getElem?_append_left hj']; exact hj)
            have HN4 : Hid (∀ X, Below w8.heap.size w8 X → ∀ j x, (intsV (R.map (·.1)))[j]? = some x → X.cell? ((if cq = A.length + 1 then (⟨g3, 0, none⟩ : Addr) else ⟨g3, A.length + 1, none⟩).add j) = some x) := hide fun X hX j x hj => by
             have hj' := (List.getElem?_eq_some_iff.1 hj).1
             have hR : 0 < R.length := by simp [intsV] at hj'; omega
             rw [if_neg (by omega)]
             have := row_news (ys := intsV (A.map (·.2)) ++ intsV [k]) (unhide HX8).2.1 (by rw [List.append_assoc]) X hX j x hj
             rw [show (intsV (A.map (·.2)) ++ intsV [k]).length = A.length + 1 by simp [intsV]] at this
             exact this
            have hb8 := (unhide HX8).2.2.size
            have hAcq : A.length ≤ cq := by omega
            have hw1 : IntKind.i64.wrap ((A.length : Int) + 1) = (A.length : Int) + 1 := IntWalk.i64_in _ (by omega)
            have hw1t : ((A.length : Int) + 1).toNat = A.length + 1 := by omega
            have hw1z : 0 ≤ (A.length : Int) + 1 := by omega
            have hw1l : (A.length : Int) + 1 ≤ (A.length : Int) + ((R.length : Int) + 1) := by omega
            go_wp2
            all_goals go_region_law (first
             | (refine step_own rfl (.tmp 126) (.tmp 129) 42 rfl w8.heap.size 3 i3 _ 1 8 Tryz.underlying42 hi3 hz30 hz31 hz32 rfl (by decide) (.slice (some ⟨w8.heap.size, 0, none⟩) 0 0) 0 [] rfl (own_empty (by first | exact heap_alloc_new' _ _ rfl | (simp only [bh_drew, bh_alloc, Array.getElem?_push, Array.size_push]; done) | (simp only [bh_drew, bh_alloc, Array.getElem?_push, Array.size_push]; simp; done)) (by omega)) ⟨g3, 0, none⟩ A.length cq (intsV (A.map (·.2))) (by simp [Act.eval]) (by simp [intsV]) (unhide HN3 _ (by (repeat' (first | exact Below.refl _ _ | refine Below.drew ?_ | refine ba2 ?_ _)))) (one_int _) (by unfold maxLen; omega) (by omega) (by first | (simp; done) | (simp; omega)) ?_; intro ao4 cp4 w9 hown4 hg4; rw [Nat.zero_add, List.nil_append] at hown4; have HO4 := hide hown4; have HB9 : Hid (Below w8.heap.size w8 w9) := hide (below_g (by (repeat' (first | exact Below.refl _ _ | refine Below.drew ?_ | refine ba2 ?_ _))) hg4 (fun x hx => by simp [Value.ownBlock] at hx; omega) (by first | (simp; done) | (simp; omega))); clear hown4 hg4; rw [Nat.zero_add])
             | (refine step_own rfl (.tmp 130) (.tmp 134) 42 rfl w8.heap.size 3 i3 _ 1 8 Tryz.underlying42 hi3 hz30 hz31 hz32 rfl (by decide) (.slice ao4 A.length cp4) A.length (intsV (A.map (·.2))) (by simp [Act.eval]) (b_ownsRow (unhide HO4) fun g hg => ((by (repeat' (first | exact Below.refl _ _ | refine Below.drew ?_ | refine ba2 ?_ _))) : Below w9.heap.size w9 _).block g ((unhide HO4).lt g hg).2) (if cq = A.length + 1 then ⟨g3, 0, none⟩ else ⟨g3, A.length + 1, none⟩) R.length (cq - (A.length + 1)) (intsV (R.map (·.1))) (by simp [Act.eval]; first | done | (split <;> simp <;> omega) | omega) (by simp [intsV]) (unhide HN4 _ ((unhide HB9).trans (((by (repeat' (first | exact Below.refl _ _ | refine Below.drew ?_ | refine ba2 ?_ _))) : Below w9.heap.size w9 _).mono (unhide HB9).size))) (one_int _) (by unfold maxLen; omega) (by omega) (by have := (unhide HB9).size; first | (simp; done) | (simp; omega) | omega) ?_; intro ao5 cp5 w10 hown5 hg5; have HO5 := hide hown5; have HB10 : Hid (Below w8.heap.size w8 w10) := hide (below_g ((unhide HB9).trans (((by (repeat' (first | exact Below.refl _ _ | refine Below.drew ?_ | refine ba2 ?_ _))) : Below w9.heap.size w9 _).mono (unhide HB9).size)) hg5 (fun x hx => ((unhide HO4).lt x hx).1) (by have := (unhide HB9).size; first | (simp; done) | (simp; omega) | omega)); clear hown5 hg5))
            all_goals go_wp2
            all_goals
             go_roundg (R.length + 1)
             case measure => omega
             case rel =>
              have hM := (unhide HMid).join (by rw [unhide HST, unhide HSL, ← unhide HL])
              rw [← unhide HQ] at hM
              have hX := unhide HX8
              have hB := unhide HB10
              have e3 : intsV (A.map (·.2) ++ R.map (·.1)) = intsV (A.map (·.2)) ++ intsV (R.map (·.1)) := by simp [intsV]
              refine ⟨A, q, R, ao5, ao3, cp5, cp3, rfl, rfl, rfl, by rw [show A.length + 1 + R.length = A.length + R.length + 1 by omega], hide hM, ?_⟩
              rw [e3, show A.length + R.length + 1 = A.length + 1 + R.length by omega]
              exact hide ⟨b_ownsRow hX.1 fun g hg => hB.block g (hX.1.lt g hg).2, b_own_base (unhide HO5) hb8, hX.2.2.trans (hB.mono hb8)⟩
          ·go_wp2
           go_roundg (R.length + 1)
           case measure => omega
           case rel =>
            have hM := (unhide HMid).skip (by rw [unhide HST]; have := unhide HL; omega)
            refine ⟨A ++ [(u, k)], v, R, some ⟨g3, 0, none⟩, some ⟨g9, 0, none⟩, cq, cu, rfl, ?_, ?_, ?_, hide hM, ?_⟩
            ·rw [List.length_append]; go_num
            ·rw [List.length_append, List.length_singleton]; congr 1; omega
            ·rw [List.length_append, List.length_singleton]; congr 1; omega
            ·have hX := unhide HX
             rw [List.length_append, List.length_singleton, show A.length + 1 + R.length = A.length + (R.length + 1) by omega]
             simp only [List.map_append, List.map_cons, List.map_nil, List.append_assoc, List.cons_append, List.nil_append] at hX ⊢
             exact hide hX
      ·have hlz : ¬ (1 : Int) ≤ (l : Int) := by omega
       obtain rfl : l = 0 := by omega
       have hr30 : okRw (rowX 0 ks) := by rw [← rowK_rw]; exact (rowK_ok ks 0 (unhide HKL).2).rw
       have hb := (binds (.leaf [97]) (rowX 0 ks) (rowX 0 ks).length (Nat.le_refl _) fun x hx => ops_is _ (hr30 x hx).1).1
       have hT : (u0, rwK R0) = bind5 (.leaf [97]) (rowX 0 ks) := (unhide HOut).eq.trans (unhide HT)
       have hu0 : u0 = (bind5 (.leaf [97]) (rowX 0 ks)).1 := congrArg Prod.fst hT
       have hR0 : rwK R0 = [] := by rw [hb] at hT; exact congrArg Prod.snd hT
       have hR00 : R0 = [] := by cases R0 with | nil => rfl | cons x r => simp [rwK] at hR0
       subst hR00
       have hu182 := len_ops u0 (unhide HOut).ou
       have hw30 := (unhide HOut).wt
       simp only [wtR] at hw30
       have hdu := dep_ops u0
       have hrl := rowX_len ks 0
       have hkl := (unhide HKL).1
       obtain ⟨d1, ed1, gd1⟩ := good_src (.leaf [97]) (rowX 0 ks) (97 :: strR (rowX 0 ks)) rfl (.inl rfl) hr30 (by simp [depE]) (fun x hx => by rw [← rowK_rw] at hx; obtain ⟨y, hy, rfl⟩ := List.mem_map.1 hx; exact rowK_dep ks 0 y hy) (by rw [List.length_cons]; omega)
       obtain ⟨d2, ed2, gd2⟩ := good_src u0 [] (strE u0) (by simp [strR]) (unhide HOut).ou (fun x hx => by simp at hx) (by omega) (fun x hx => by simp at hx) (by omega)
       rw [bind5_nil] at ed2
       rw [← hu0] at ed1
       have hs1 : Jj.small d1 = true := by rw [← small_er, ed1]; exact small_decl _
       have hs2 : Jj.small d2 = true := by rw [← small_er, ed2]; exact small_decl _
       have HD : Hid (er d1 = er d2) := hide (ed1.trans ed2.symm)
       have HP1 := hide gd1
       have HP2 := hide gd2
       have HS1 := hide hs1
       have HS2 := hide hs2
       have HVr : Hid (Vars wr) := hide ((unhide HV0).below (B := W0.heap.size) (by have := (unhide HV0).lt; omega) (unhide HX).2.2)
       obtain ⟨au', cu', eau, hcu', hgu⟩ := b_form (unhide HX).1
       injection eau with eau _ ecu
       subst eau ecu
       obtain ⟨g9, rfl⟩ := hgu (by omega)
       clear hgu
       have huc : wr.cell? ⟨g9, 0, none⟩ = some (.string ⟨(strE u0).toArray⟩) := by
        have := (unhide HX).1.cells (g := g9) rfl 0 (.string ⟨(strE u0).toArray⟩) (by simp [exV])
        rwa [b_add] at this
       have hg9 : Hid (g9 < wr.heap.size) := hide ((unhide HX).1.lt g9 rfl).2
       have hx1 : (strR (rowX 0 ks)).length ≤ 200 := by omega
       have hx2 : (strE u0).length ≤ 200 := by omega
       clear hb hT hu0 hR0 hu182 hw30 hdu hrl ed1 ed2 gd1 gd2 hs1 hs2 hr30
       go_wp2_with (go_at_call 15; with_reducible refine (Jj.Parse_good _ [d1] wr (unhide HVr) (unhide HP1)).mono ?_; rintro e w1 ⟨hb1, ao1, cp1, rfl, hk1⟩; rw [show [d1].length = 1 from rfl] at hk1 ⊢; have HB1 : Hid (Below wr.heap.size wr ((w1.alloc (.cells #[.int .i64 1, .string ⟨#[]⟩, .int .i64 0, .int .i64 0, .string ⟨#[]⟩, .int .i64 0, .slice ao1 1 cp1] 24)).alloc (.cells #[.int .i64 0, .int .i64 0] 32))) := hide (ba2 (ba2 hb1 _) _); have HK1 := hide hk1; have HV1 : Hid (Vars ((w1.alloc (.cells #[.int .i64 1, .string ⟨#[]⟩, .int .i64 0, .int .i64 0, .string ⟨#[]⟩, .int .i64 0, .slice ao1 1 cp1] 24)).alloc (.cells #[.int .i64 0, .int .i64 0] 32))) := hide ((unhide HVr).below (B := wr.heap.size) (by have := (unhide HVr).lt; omega) (ba2 (ba2 hb1 _) _)); have huc1 : ((w1.alloc (.cells #[.int .i64 1, .string ⟨#[]⟩, .int .i64 0, .int .i64 0, .string ⟨#[]⟩, .int .i64 0, .slice ao1 1 cp1] 24)).alloc (.cells #[.int .i64 0, .int .i64 0] 32)).cell? ⟨g9, 0, none⟩ = some (.string ⟨(strE u0).toArray⟩) := (World.cell?_of_block (w := wr) (a := ⟨g9, 0, none⟩) ((ba2 (ba2 hb1 _) _ : Below wr.heap.size wr ((w1.alloc (.cells #[.int .i64 1, .string ⟨#[]⟩, .int .i64 0, .int .i64 0, .string ⟨#[]⟩, .int .i64 0, .slice ao1 1 cp1] 24)).alloc (.cells #[.int .i64 0, .int .i64 0] 32))).block g9 (unhide hg9))).trans huc; clear hb1 hk1)
       go_wp2_with (go_at_call 15; with_reducible refine (Jj.Parse_good _ [d2] ((w1.alloc (.cells #[.int .i64 1, .string ⟨#[]⟩, .int .i64 0, .int .i64 0, .string ⟨#[]⟩, .int .i64 0, .slice ao1 1 cp1] 24)).alloc (.cells #[.int .i64 0, .int .i64 0] 32)) (unhide HV1) (unhide HP2)).mono ?_; rintro e w2 ⟨hb2, ao2, cp2, rfl, hk2⟩; rw [show [d2].length = 1 from rfl] at hk2 ⊢; have HB2 := hide hb2; have HK2 := hide hk2; clear hb2 hk2)
       have f1 : ((w2.alloc (.cells #[.int .i64 1, .string ⟨#[]⟩, .int .i64 0, .int .i64 0, .string ⟨#[]⟩, .int .i64 0, .slice ao2 1 cp2] 24)).alloc (.cells #[.int .i64 0, .int .i64 0] 32)).heap[w1.heap.size]? = some (.cells #[.int .i64 1, .string ⟨#[]⟩, .int .i64 0, .int .i64 0, .string ⟨#[]⟩, .int .i64 0, .slice ao1 1 cp1] 24) := by
        rw [blk_alloc2 _ _ _ _ (Nat.lt_of_lt_of_le (by simp; omega) (unhide HB2).size), (unhide HB2).block _ (by simp; omega)]
        exact blk_alloc (heap_alloc_new' _ _ rfl) _
       have f2 : ((w2.alloc (.cells #[.int .i64 1, .string ⟨#[]⟩, .int .i64 0, .int .i64 0, .string ⟨#[]⟩, .int .i64 0, .slice ao2 1 cp2] 24)).alloc (.cells #[.int .i64 0, .int .i64 0] 32)).heap[w1.heap.size + 1]? = some (.cells #[.int .i64 0, .int .i64 0] 32) := by
        rw [blk_alloc2 _ _ _ _ (Nat.lt_of_lt_of_le (by simp) (unhide HB2).size), (unhide HB2).block _ (by simp)]
        exact heap_alloc_new' _ _ (by simp)
       have f3 : ((w2.alloc (.cells #[.int .i64 1, .string ⟨#[]⟩, .int .i64 0, .int .i64 0, .string ⟨#[]⟩, .int .i64 0, .slice ao2 1 cp2] 24)).alloc (.cells #[.int .i64 0, .int .i64 0] 32)).heap[w2.heap.size]? = some (.cells #[.int .i64 1, .string ⟨#[]⟩, .int .i64 0, .int .i64 0, .string ⟨#[]⟩, .int .i64 0, .slice ao2 1 cp2] 24) := blk_alloc (heap_alloc_new' _ _ rfl) _
       have f4 : ((w2.alloc (.cells #[.int .i64 1, .string ⟨#[]⟩, .int .i64 0, .int .i64 0, .string ⟨#[]⟩, .int .i64 0, .slice ao2 1 cp2] 24)).alloc (.cells #[.int .i64 0, .int .i64 0] 32)).heap[w2.heap.size + 1]? = some (.cells #[.int .i64 0, .int .i64 0] 32) := heap_alloc_new' _ _ (by simp)
       have gk1 : w1.grownBy ((w2.alloc (.cells #[.int .i64 1, .string ⟨#[]⟩, .int .i64 0, .int .i64 0, .string ⟨#[]⟩, .int .i64 0, .slice ao2 1 cp2] 24)).alloc (.cells #[.int .i64 0, .int .i64 0] 32)) none := grown_trans (grown_alloc (grown_alloc (grown_refl _ _) _) _) (grown_trans (b_grown (unhide HB2)) (grown_alloc (grown_alloc (grown_refl _ _) _) _))
       have gk2 : w2.grownBy ((w2.alloc (.cells #[.int .i64 1, .string ⟨#[]⟩, .int .i64 0, .int .i64 0, .string ⟨#[]⟩, .int .i64 0, .slice ao2 1 cp2] 24)).alloc (.cells #[.int .i64 0, .int .i64 0] 32)) none := grown_alloc (grown_alloc (grown_refl _ _) _) _
       have k1 := (unhide HK1).grown gk1
       have k2 := (unhide HK2).grown gk2
       have bw : Below wr.heap.size wr ((w2.alloc (.cells #[.int .i64 1, .string ⟨#[]⟩, .int .i64 0, .int .i64 0, .string ⟨#[]⟩, .int .i64 0, .slice ao2 1 cp2] 24)).alloc (.cells #[.int .i64 0, .int .i64 0] 32)) := ba2 (ba2 ((unhide HB1).trans ((unhide HB2).mono (unhide HB1).size)) _) _
       generalize ((w2.alloc (.cells #[.int .i64 1, .string ⟨#[]⟩, .int .i64 0, .int .i64 0, .string ⟨#[]⟩, .int .i64 0, .slice ao2 1 cp2] 24)).alloc (.cells #[.int .i64 0, .int .i64 0] 32)) = W at f1 f2 f3 f4 k1 k2 bw ⊢
       have BW := hide bw
       have FF1 := hide f1
       have FF2 := hide f2
       have FF3 := hide f3
       have FF4 := hide f4
       have HC1 : Hid (∀ X, W.grownBy X none → Calls Tryz.prog 12 #[(.agg #[.int .i64 1, .string ⟨#[]⟩, .int .i64 0, .int .i64 0, .string ⟨#[]⟩, .int .i64 0, .slice ao1 1 cp1])] X fun e w' => X.grownBy w' none ∧ ∃ ao3 cp3, e = .returned (.agg #[.int .i64 1, .string ⟨#[]⟩, .int .i64 0, .int .i64 0, .string ⟨#[]⟩, .int .i64 0, .slice ao3 1 cp3]) ∧ Jj.KidsAt w' (.slice ao3 1 cp3) [er d1]) := hide fun X hX =>
        (Jj.bare_w _ 1 [] 0 0 [d1] (Nat.le_refl _) (by simp [Jj.small, unhide HS1]) X ao1 cp1 (k1.grown hX)).mono (by rintro e w' ⟨h1, ao, cp, h2, h3⟩; exact ⟨h1, ao, cp, h2, Jj.KidsAt.of h3 (Nat.le_refl _)⟩)
       have HC2 : Hid (∀ X, W.grownBy X none → Calls Tryz.prog 12 #[(.agg #[.int .i64 1, .string ⟨#[]⟩, .int .i64 0, .int .i64 0, .string ⟨#[]⟩, .int .i64 0, .slice ao2 1 cp2])] X fun e w' => X.grownBy w' none ∧ ∃ ao3 cp3, e = .returned (.agg #[.int .i64 1, .string ⟨#[]⟩, .int .i64 0, .int .i64 0, .string ⟨#[]⟩, .int .i64 0, .slice ao3 1 cp3]) ∧ Jj.KidsAt w' (.slice ao3 1 cp3) [er d1]) := hide fun X hX =>
        (Jj.bare_w _ 1 [] 0 0 [d2] (Nat.le_refl _) (by simp [Jj.small, unhide HS2]) X ao2 cp2 (k2.grown hX)).mono (by rintro e w' ⟨h1, ao, cp, h2, h3⟩; rw [unhide HD]; exact ⟨h1, ao, cp, h2, Jj.KidsAt.of h3 (Nat.le_refl _)⟩)
       have HC3 : Hid (∀ X ao cp ao' cp', Jj.KidsAt X (.slice ao 1 cp) [er d1] → Jj.KidsAt X (.slice ao' 1 cp') [er d1] → Calls Tryz.prog 11 #[(.agg #[.int .i64 1, .string ⟨#[]⟩, .int .i64 0, .int .i64 0, .string ⟨#[]⟩, .int .i64 0, .slice ao 1 cp]), (.agg #[.int .i64 1, .string ⟨#[]⟩, .int .i64 0, .int .i64 0, .string ⟨#[]⟩, .int .i64 0, .slice ao' 1 cp'])] X fun e w' => e = .returned (.bool true) ∧ X.grownBy w' none) := hide fun X ao cp ao' cp' h1 h2 =>
        Jj.same_w _ 1 [] 0 0 [er d1] (Nat.le_refl _) X ao ao' cp cp' h1 h2
       obtain ⟨n0, n1, n2, n3, n4, n5, n6⟩ := cells7 f1
       obtain ⟨m0, m1, m2, m3, m4, m5, m6⟩ := cells7 f3
       obtain ⟨q0, q1⟩ := cells2 f2
       obtain ⟨r0, r1⟩ := cells2 f4
       clear f1 f2 f3 f4 gk1 gk2 k1 k2 bw huc huc1 HK1 HK2 HB1 HB2
       generalize w1.heap.size = b1 at *
       generalize w2.heap.size = b2 at *
       go_region_law (first
        | (go_simp; go_at_call 12; with_reducible refine (unhide HC1 _ (by (repeat' (first | exact grown_refl _ _ | refine grown_drew ?_)))).mono ?_; rintro e w3 ⟨hg3, ao3, cp3, rfl, hk3⟩; have HG3 : Hid (W.grownBy w3 none) := hide (grown_trans (by (repeat' (first | exact grown_refl _ _ | refine grown_drew ?_))) hg3); have HK3 := hide hk3; (obtain ⟨y0, y1, y2, y3, y4, y5, y6⟩ := cells7 (((unhide HG3).block _ (b_hlt (unhide FF3)) (by simp)).trans (unhide FF3))); clear hg3 hk3)
        | (go_simp; go_at_call 12; with_reducible refine (unhide HC2 _ (by (repeat' (first | exact unhide HG3 | refine grown_drew ?_)))).mono ?_; rintro e w4 ⟨hg4, ao4, cp4, rfl, hk4⟩; have HG4 : Hid (w3.grownBy w4 none) := hide (grown_trans (by (repeat' (first | exact grown_refl _ _ | refine grown_drew ?_))) hg4); have HK4 := hide hk4; clear hg4 hk4)
        | (go_simp; go_at_call 11; with_reducible refine (unhide HC3 _ ao3 cp3 ao4 cp4 (((unhide HK3).grown (unhide HG4)).grown (by (repeat' (first | exact grown_refl _ _ | refine grown_drew ?_)))) ((unhide HK4).grown (by (repeat' (first | exact grown_refl _ _ | refine grown_drew ?_))))).mono ?_; rintro e w5 ⟨rfl, hg5⟩; have HG5 : Hid (w4.grownBy w5 none) := hide (grown_trans (by (repeat' (first | exact grown_refl _ _ | refine grown_drew ?_))) hg5); clear hg5))
       all_goals
        go_wp2
        go_ret
        have h1 := (unhide HB0).trans ((unhide HX).2.2.mono (unhide HB0).size)
        have h2 := h1.trans ((unhide BW).mono h1.size)
        have h3 := below_g h2 (unhide HG3) (fun x hx => by cases hx) h2.size
        have h4 := below_g h3 (unhide HG4) (fun x hx => by cases hx) h3.size
        have h5 := below_g h4 (unhide HG5) (fun x hx => by cases hx) h4.size
        exact ⟨rfl, by first | exact h5 | exact h5.drew⟩
end Go.Proofs.YtgckmkiiheaeaaaGreatDoor
