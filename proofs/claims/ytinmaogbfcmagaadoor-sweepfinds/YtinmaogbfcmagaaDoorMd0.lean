/- A heap with given blocks: what is made, plainly and in memory. -/
import Derived.Test.YtinmaogbfcmagaaDoorMk4
import Derived.Test.YtinmaogbfcmagaaDoorRg1
namespace Go.Proofs.YtinmaogbfcmagaaDoor
open Go.RowKit Go.Proofs.YtinmaogbfcmagaaDoor.Hp
/-- A block to be made. -/
structure Rw where
  kd : Int
  sz : Int
  ms : Int
  wa : Option Addr
  wc : Nat
  W : List Int
/-- What was made of them: the heap, and each block's address. -/
inductive Mch : List Rw → (Nat → Kd) → List (Nat × Rw) → Prop
  | nil : Mch [] (emptyA 128) []
  | put (rs : List Rw) (A A' : Nat → Kd) (l : List (Nat × Rw)) (r : Rw) (a : Nat) : Mch rs A l → Goes 128 A (r.W.length + 1) a A' → Mch (rs ++ [r]) A' (l ++ [(a, r)])
  | no (rs : List Rw) (A : Nat → Kd) (l : List (Nat × Rw)) (r : Rw) : Mch rs A l → NoPlace 128 A (r.W.length + 1) → Mch (rs ++ [r]) A l
def adO (l : List (Nat × Rw)) (j : Nat) : Nat := (l.getD j (0, ⟨0, 0, 0, none, 0, []⟩)).1
def rwO (l : List (Nat × Rw)) (j : Nat) : Rw := (l.getD j (0, ⟨0, 0, 0, none, 0, []⟩)).2
theorem adO_app {l : List (Nat × Rw)} {p : Nat × Rw} {j : Nat} (h : j < l.length) : adO (l ++ [p]) j = adO l j ∧ rwO (l ++ [p]) j = rwO l j := by
  unfold adO rwO
  simp [List.getD, List.getElem?_append_left h]
theorem adO_last {l : List (Nat × Rw)} {p : Nat × Rw} : adO (l ++ [p]) l.length = p.1 ∧ rwO (l ++ [p]) l.length = p.2 := by
  unfold adO rwO
  simp [List.getD]
theorem Mch.len {rs : List Rw} {A : Nat → Kd} {l : List (Nat × Rw)} (h : Mch rs A l) : l.length ≤ rs.length := by
  induction h with
  | nil => simp
  | put _ _ _ _ _ _ _ _ ih => simp; omega
  | no _ _ _ _ _ _ ih => simp; omega
theorem Mch.mem {rs : List Rw} {A : Nat → Kd} {l : List (Nat × Rw)} (h : Mch rs A l) : ∀ j, j < l.length → rwO l j ∈ rs := by
  induction h with
  | nil => intro j hj; simp at hj
  | put rs A A' l r a _ _ ih =>
    intro j hj
    by_cases e : j < l.length
    · rw [(adO_app e).2]; exact List.mem_append.2 (.inl (ih j e))
    · obtain rfl : j = l.length := by simp at hj; omega
      rw [adO_last.2]; simp
  | no rs A l r _ _ ih => intro j hj; exact List.mem_append.2 (.inl (ih j hj))
theorem Mch.bk {rs : List Rw} {A : Nat → Kd} {l : List (Nat × Rw)} (h : Mch rs A l) (hs : ∀ r ∈ rs, r.W.length ≤ 100) : Bk 128 l.length (adO l) (fun _ => false) A ∧ ∀ j, j < l.length → (rwO l j).W.length + 1 ≤ roomN A (adO l j) := by
  induction h with
  | nil => exact ⟨Bk.empty 128 _, fun j hj => by simp at hj⟩
  | put rs A A' l r a _ g ih =>
    obtain ⟨h1, h2⟩ := ih fun r hr => hs r (List.mem_append.2 (.inl hr))
    have hr := hs r (by simp)
    have hp := h1.push (by omega) g
    have hR := room_goes h1.inv g
    refine ⟨?_, fun j hj => ?_⟩
    · have e : ∀ j, j < l.length + 1 → upd (adO l) l.length a j = adO (l ++ [(a, r)]) j := fun j hj => by
        by_cases e : j = l.length
        · rw [e, upd_same, adO_last.1]
        · rw [upd_ne _ _ e, (adO_app (by omega)).1]
      rw [List.length_append]
      refine ⟨hp.inv, fun j hj hg => by rw [← e j hj]; exact hp.live j hj hg, fun j hj hg => (by simp at hg), fun x hx => ?_, fun i j hi hj he => ?_⟩
      · obtain ⟨j, hj, e1⟩ := hp.only x hx
        exact ⟨j, hj, by rw [← e j hj]; exact e1⟩
      · exact hp.inj i j hi hj (by rw [e i hi, e j hj]; exact he)
    · by_cases e : j < l.length
      · rw [(adO_app e).1, (adO_app e).2, hR.2]
        have hl := h2 j e
        rw [if_neg (fun e2 => by rw [e2, hR.1] at hl; omega)]
        exact hl
      · obtain rfl : j = l.length := by simp at hj; omega
        rw [adO_last.1, adO_last.2, hR.2, if_pos rfl]
        exact roomOfM_ge _
  | no rs A l r _ _ ih => exact ih fun r hr => hs r (List.mem_append.2 (.inl hr))
/-- The words of made blocks. -/
def valO (l : List (Nat × Rw)) (v : Int) : Int := if v < 0 then (adO l ((-(v + 1)) % (l.length : Int)).toNat : Int) else v
def hdO (l : List (Nat × Rw)) (j : Nat) : Int := hdr (rwO l j).kd (rwO l j).sz (rwO l j).ms
def finO (l : List (Nat × Rw)) (j q : Nat) : Int := if q = 0 then hdO l j else if q - 1 < (rwO l j).W.length then valO l ((rwO l j).W.getD (q - 1) 0) else 0
def Gto (l : List (Nat × Rw)) (i k : Nat) (j q : Nat) : Int := if j < i then finO l j q else if j = i ∧ q < k then finO l j q else 0
def Wds (A : Nat → Kd) (l : List (Nat × Rw)) (wd : Nat → Int) (G : Nat → Nat → Int) : Prop := ∀ j, j < l.length → ∀ q, q < roomN A (adO l j) → wd (adO l j + q) = G j q
theorem Wds.zero (A : Nat → Kd) (l : List (Nat × Rw)) : Wds A l (fun _ => 0) (Gto l 0 0) := fun j _ q _ => by simp [Gto]
theorem Wds.store {A : Nat → Kd} {l : List (Nat × Rw)} {wd : Nat → Int} {i k : Nat} (hB : Bk 128 l.length (adO l) (fun _ => false) A) (h : Wds A l wd (Gto l i k)) (hi : i < l.length) (hk : k < roomN A (adO l i)) :
    Wds A l (upd wd (adO l i + k) (finO l i k)) (Gto l i (k + 1)) := by
  intro j hj q hq
  by_cases e : j = i
  · subst e
    by_cases e2 : q = k
    · subst e2; rw [upd_same]; simp [Gto]
    · rw [upd_ne _ _ (by omega), h j hj q hq]
      simp only [Gto]
      by_cases e3 : q < k
      · simp [e3, show q < k + 1 by omega]
      · simp [e3, show ¬ q < k + 1 by omega]
  · have hne : adO l j ≠ adO l i := fun x => e (hB.inj j i hj hi x)
    have := two_apart hB.inv (hB.live j hj rfl) (hB.live i hi rfl) hne
    rw [upd_ne _ _ (by omega), h j hj q hq]
    simp only [Gto]
    by_cases e3 : j < i
    · rw [if_pos e3, if_pos e3]
    · rw [if_neg e3, if_neg e3, if_neg (fun x => e x.1), if_neg (fun x => e x.1)]
theorem Wds.next {A : Nat → Kd} {l : List (Nat × Rw)} {wd : Nat → Int} {i : Nat} (h : Wds A l wd (Gto l i ((rwO l i).W.length + 1))) : Wds A l wd (Gto l (i + 1) 0) := by
  intro j hj q hq
  rw [h j hj q hq]
  simp only [Gto]
  by_cases e : j < i
  · rw [if_pos e, if_pos (by omega)]
  · rw [if_neg e]
    by_cases e2 : j = i
    · subst e2
      rw [if_pos (show j < j + 1 by omega)]
      by_cases e3 : q < (rwO l j).W.length + 1
      · rw [if_pos ⟨rfl, e3⟩]
      · rw [if_neg (fun x => e3 x.2)]
        unfold finO
        rw [if_neg (by omega), if_neg (by omega)]
    · rw [if_neg (fun x => e2 x.1), if_neg (by omega), if_neg (by omega)]
/-- The made blocks' list in memory: five cells a block. -/
structure Lb where
  at_ : Nat
  kd : Int
  sz : Int
  ms : Int
  wa : Option Addr
  wn : Nat
  wc : Nat
def lbCells (b : Lb) : List Value := [.int .i64 b.at_, .int .i64 b.kd, .int .i64 b.sz, .int .i64 b.ms, .slice b.wa b.wn b.wc]
def lbAll (L : List Lb) : List Value := L.flatMap lbCells
def iniL (l : List (Nat × Rw)) (j : Nat) : Lb := ⟨adO l j, (rwO l j).kd, (rwO l j).sz, (rwO l j).ms, (rwO l j).wa, (rwO l j).W.length, (rwO l j).wc⟩
def lbO (p : Nat × Rw) : Lb := ⟨p.1, p.2.kd, p.2.sz, p.2.ms, p.2.wa, p.2.W.length, p.2.wc⟩
def lcell (F : Nat → Lb) (i : Nat) : Value := (lbCells (F (i / 5))).getD (i % 5) undef
theorem lbAll_len (L : List Lb) : (lbAll L).length = L.length * 5 := by
  induction L with
  | nil => rfl
  | cons a L ih =>
    have : lbAll (a :: L) = lbCells a ++ lbAll L := rfl
    rw [this, List.length_append, ih, List.length_cons]
    simp [lbCells]; omega
theorem lbAll_get : ∀ (L : List Lb) (i j : Nat) (b : Lb), L[i]? = some b → j < 5 → (lbAll L)[i * 5 + j]? = (lbCells b)[j]?
  | [], i, j, b, h, _ => by simp at h
  | c :: L, 0, j, b, h, hj => by
    simp at h; subst h
    show (lbCells c ++ lbAll L)[0 * 5 + j]? = _
    rw [Nat.zero_mul, Nat.zero_add, List.getElem?_append_left (by simp [lbCells]; omega)]
  | c :: L, i + 1, j, b, h, hj => by
    have ih := lbAll_get L i j b (by simpa using h) hj
    show (lbCells c ++ lbAll L)[(i + 1) * 5 + j]? = _
    rw [List.getElem?_append_right (by simp [lbCells]; omega)]
    have : (i + 1) * 5 + j - (lbCells c).length = i * 5 + j := by simp [lbCells]; omega
    rw [this]
    exact ih
theorem lb_one (b : Lb) : ∀ u ∈ lbCells b, u.oneCell' = true := by
  intro u hu
  simp only [lbCells, List.mem_cons, List.mem_nil_iff, or_false] at hu
  rcases hu with rfl | rfl | rfl | rfl | rfl <;> rfl
theorem lb_news {w : World} (b : Lb) : ∀ j u, (lbCells b)[j]? = some u → (w.alloc (.cells #[.int .i64 b.at_, .int .i64 b.kd, .int .i64 b.sz, .int .i64 b.ms, .slice b.wa b.wn b.wc] 37)).cell? ((⟨w.heap.size, 0, none⟩ : Addr).add j) = some u := by
  intro j u hj
  have e : (⟨w.heap.size, 0, none⟩ : Addr).add j = ⟨w.heap.size, j, none⟩ := by
    unfold Addr.add
    split
    · rename_i h; rw [h]
    · simp
  rw [e, World.cell?_alloc_at _ _ _ _ rfl, ← hj]
  simp [lbCells]
theorem own_row {w : World} {base n cp g : Nat} {l : List (Nat × Rw)} (h : w.ownsRow base 37 5 (.slice (some ⟨g, 0, none⟩) n cp) n (lbAll (l.map lbO))) : n = l.length ∧ base ≤ g ∧ g < w.heap.size ∧ Row w g (5 * n) (lcell (iniL l)) := by
  have hl := h.lt g rfl
  have hn : n = l.length := by
    have := h.1
    rw [lbAll_len, List.length_map] at this
    omega
  refine ⟨hn, hl.1, hl.2, fun i hi => ⟨?_, ?_⟩⟩
  · rw [h.cellAt i (by omega)]
    have hd : i = (i / 5) * 5 + i % 5 := by omega
    have hb : (l.map lbO)[i / 5]? = some (iniL l (i / 5)) := by
      have hi5 : i / 5 < l.length := by omega
      simp [List.getElem?_map, List.getElem?_eq_getElem hi5, lbO, iniL, adO, rwO, List.getD]
    rw [hd, lbAll_get _ _ _ _ hb (by omega), lcell]
    rw [show ((i / 5) * 5 + i % 5) / 5 = i / 5 by omega, show ((i / 5) * 5 + i % 5) % 5 = i % 5 by omega]
    have h5 : i % 5 < (lbCells (iniL l (i / 5))).length := by simp [lbCells]; omega
    rw [List.getD, List.getElem?_eq_getElem h5]; rfl
  · rcases h.2 with ⟨h2, _⟩ | ⟨g', cap, cur, h2, _, h4, _⟩
    · cases h2
    · cases h2
      simp [World.frozen?, h4]
theorem lcell_at (F : Nat → Lb) (i j : Nat) (hj : j < 5) : lcell F (i * 5 + j) = (lbCells (F i)).getD j undef := by
  unfold lcell
  rw [show (i * 5 + j) / 5 = i by omega, show (i * 5 + j) % 5 = j by omega]
theorem lcell_set (F : Nat → Lb) (i j : Nat) (hj : j < 5) (b : Lb) (v : Value) (hb : ∀ t, t < 5 → (lbCells b).getD t undef = if t = j then v else (lbCells (F i)).getD t undef) (x : Nat) : upd (lcell F) (i * 5 + j) v x = lcell (upd F i b) x := by
  by_cases e : x = i * 5 + j
  · subst e
    rw [upd_same, lcell_at _ _ _ hj, upd_same, hb j hj, if_pos rfl]
  · rw [upd_ne _ _ e]
    unfold lcell
    by_cases e2 : x / 5 = i
    · subst e2
      rw [upd_same, hb _ (by omega), if_neg (by omega)]
    · rw [upd_ne _ _ e2]
/-- The two heaps side by side, without words. -/
structure Mm (w0 w : World) (B : HB) (pb base N : Nat) (A : Nat → Kd) (wd : Nat → Int) (L : List Rb) (lv : Value) : Prop where
  at_ : At w B N (hrOf A wd)
  inv : Inv N A
  vars : Vars w
  ref : RefAt w pb base N L lv
  mt : Match A L
  far : Fr (fun _ => False) w0 w
  le : base ≤ w.heap.size
theorem Mm.quiet {w0 w w' : World} {B : HB} {pb base N : Nat} {A : Nat → Kd} {wd : Nat → Int} {L : List Rb} {lv : Value} (h : Mm w0 w B pb base N A wd L lv) (k : Fr (fun _ => False) w w') : Mm w0 w' B pb base N A wd L lv :=
  ⟨h.at_.quiet k, h.inv, h.vars.fr k id id, h.ref.quiet k, h.mt, h.far.trans k, Nat.le_trans h.le k.size⟩
theorem Mm.alloc {w0 w w1 w2 : World} {B : HB} {pb base N m a : Nat} {A A' : Nat → Kd} {wd wd' : Nat → Int} {L : List Rb} {lv : Value} (hS : Ps w0 B pb base) (h : Mm w0 w B pb base N A wd L lv) (g : Goes N A m a A') (hm : m ≤ 16448)
    (hF : Fr B.mem w w1) (hV : Vars w1) (hA : At w1 B N (hrOf A' wd')) {e : Ending} (hP : AddP w1 pb base N a (roomOfM m) L e w2) :
    ∃ gw lv', Mm w0 w2 B pb base N A' wd' (ins ⟨a, roomOfM m, gw⟩ L) lv' ∧ (∀ g, lv'.ownBlock = some g → w1.heap.size ≤ g) ∧ Fr (· = pb) w1 w2 := by
  obtain ⟨_, gw, lv', hR, g1, g2, g3, g4, g5⟩ := hP
  have hI' := g.inv h.inv hm
  have hs := hF.size
  have hs2 := g5.size
  have hle := h.le
  have hpb1 := hS.pb1
  have hpb2 := hS.pb2
  have h2 := hS.two
  refine ⟨gw, lv', ⟨hA.fr' g5 (fun b hb e => hS.npb (by rw [← e]; exact hb)), hI', hV.fr g5 (by omega) (by omega), hR, h.mt.ins h.inv g, ?_, by omega⟩, fun g hg => (g4 g hg).1, g5⟩
  exact (h.far.up hF fun j hj => (hS.mem j hj).1).up g5 fun j hj => by rw [hj]; exact hpb1
/-- Only the program's heap was at work. -/
theorem Mm.heap {w0 w w1 : World} {B : HB} {pb base N : Nat} {A : Nat → Kd} {wd wd' : Nat → Int} {L : List Rb} {lv : Value} (hS : Ps w0 B pb base) (h : Mm w0 w B pb base N A wd L lv) (hF : Fr B.mem w w1) (hV : Vars w1) (hA : At w1 B N (hrOf A wd')) :
    Mm w0 w1 B pb base N A wd' L lv :=
  ⟨hA, h.inv, hV, h.ref.fr hF (hS.npb) (fun g hg hb => by have := (hS.mem g hb).2; have := (h.ref.own.lt g hg).1; omega), h.mt, h.far.up hF (fun j hj => (hS.mem j hj).1), Nat.le_trans h.le hF.size⟩
/-- A block beside both was written. -/
theorem Mm.beside {w0 w w1 : World} {B : HB} {pb base N : Nat} {A : Nat → Kd} {wd : Nat → Int} {L : List Rb} {lv : Value} {K : Nat → Prop} (hS : Ps w0 B pb base) (h : Mm w0 w B pb base N A wd L lv) (hF : Fr K w w1) (hK : ∀ k, K k → base ≤ k ∧ lv.ownBlock ≠ some k) : Mm w0 w1 B pb base N A wd L lv := by
  have hpb2 := hS.pb2
  have hpb1 := hS.pb1
  have h2 := hS.two
  have hnb : ∀ k, k < base → ¬ K k := fun k hk x => by have := (hK k x).1; omega
  refine ⟨h.at_.fr' hF (fun b hb => hnb b (hS.mem b hb).2), h.inv, h.vars.fr hF (hnb 0 (by omega)) (hnb 1 (by omega)), h.ref.fr hF (hnb pb hpb2) (fun g hg x => (hK g x).2 hg), h.mt, h.far.up hF (fun j hj => by have := (hK j hj).1; omega), Nat.le_trans h.le hF.size⟩
end Go.Proofs.YtinmaogbfcmagaaDoor
