/- Programs and their bytes, plainly: how numbers, texts, flags and lists are written, and that what is written is read in one way alone. -/
import Derived.Test.YtfkjjljhabjcjaaDoorChecked
namespace Go.Proofs.YtfkjjljhabjcjaaDoor.Cx

/-- Seven bits a byte, the lowest first; 128 more where others follow. -/
def sz (n : Nat) : List UInt8 := if n < 128 then [UInt8.ofNat n] else UInt8.ofNat (n % 128 + 128) :: sz (n / 128)
termination_by n
decreasing_by omega
theorem sz_lt {n : Nat} (h : n < 128) : sz n = [UInt8.ofNat n] := by rw [sz, if_pos h]
theorem sz_ge {n : Nat} (h : ¬ n < 128) : sz n = UInt8.ofNat (n % 128 + 128) :: sz (n / 128) := by rw [sz, if_neg h]
theorem sz_pos (n : Nat) : 0 < (sz n).length := by
  rw [sz]; split <;> simp
theorem ofNat_toNat {n : Nat} (h : n < 256) : (UInt8.ofNat n).toNat = n := by
  rw [UInt8.toNat_ofNat']; omega
theorem ofNat_inj {m n : Nat} (hm : m < 256) (hn : n < 256) (h : UInt8.ofNat m = UInt8.ofNat n) : m = n := by
  have := congrArg UInt8.toNat h
  rwa [ofNat_toNat hm, ofNat_toNat hn] at this
/-- What is written is read in one way alone, whatever stands behind. -/
def Pf {α : Type} (f : α → List UInt8) : Prop := ∀ x y r s, f x ++ r = f y ++ s → x = y ∧ r = s
theorem sz_pf : Pf sz := by
  intro x
  induction x using Nat.strongRecOn with
  | ind x ih =>
    intro y r s h
    by_cases hx : x < 128
    · by_cases hy : y < 128
      · rw [sz_lt hx, sz_lt hy] at h
        simp only [List.cons_append, List.nil_append, List.cons.injEq] at h
        exact ⟨ofNat_inj (by omega) (by omega) h.1, h.2⟩
      · rw [sz_lt hx, sz_ge hy] at h
        simp only [List.cons_append, List.nil_append, List.cons.injEq] at h
        have := ofNat_inj (by omega) (by omega) h.1
        omega
    · by_cases hy : y < 128
      · rw [sz_ge hx, sz_lt hy] at h
        simp only [List.cons_append, List.nil_append, List.cons.injEq] at h
        have := ofNat_inj (by omega) (by omega) h.1
        omega
      · rw [sz_ge hx, sz_ge hy] at h
        simp only [List.cons_append, List.cons.injEq] at h
        have h1 := ofNat_inj (by omega) (by omega) h.1
        obtain ⟨h2, h3⟩ := ih (x / 128) (by omega) _ _ _ h.2
        exact ⟨by omega, h3⟩
/-- The sign in the lowest bit. -/
def zig (z : Int) : Nat := if 0 ≤ z then (2 * z).toNat else (-2 * z - 1).toNat
theorem zig_inj {x y : Int} (h : zig x = zig y) : x = y := by
  unfold zig at h
  split at h <;> split at h <;> omega
def encN (z : Int) : List UInt8 := sz (zig z)
def encT (s : ByteArray) : List UInt8 := sz s.size ++ s.data.toList
def encB (b : Bool) : List UInt8 := [if b then 1 else 0]
def encL {α : Type} (f : α → List UInt8) (l : List α) : List UInt8 := sz l.length ++ l.flatMap f
theorem Pf.comp {α β : Type} {f : β → List UInt8} (h : Pf f) {g : α → β} (hg : ∀ x y, g x = g y → x = y) : Pf (fun x => f (g x)) :=
  fun _ _ _ _ e => ⟨hg _ _ (h _ _ _ _ e).1, (h _ _ _ _ e).2⟩
theorem encN_pf : Pf encN := sz_pf.comp (fun _ _ => zig_inj)
theorem encT_pf : Pf encT := by
  intro x y r s h
  simp only [encT, List.append_assoc] at h
  obtain ⟨h1, h2⟩ := sz_pf _ _ _ _ h
  have hl : x.data.toList.length = y.data.toList.length := by
    rw [Array.length_toList, Array.length_toList]; exact h1
  obtain ⟨h3, h4⟩ := List.append_inj h2 hl
  refine ⟨?_, h4⟩
  cases x; cases y
  simp only [ByteArray.mk.injEq]
  exact Array.toList_inj.1 h3
theorem encB_pf : Pf encB := by
  intro x y r s h
  simp only [encB, List.cons_append, List.nil_append, List.cons.injEq] at h
  refine ⟨?_, h.2⟩
  cases x <;> cases y <;> simp at h ⊢
theorem many_pf {α : Type} {f : α → List UInt8} (h : Pf f) : ∀ (x y : List α) (r s : List UInt8), x.length = y.length → x.flatMap f ++ r = y.flatMap f ++ s → x = y ∧ r = s
  | [], [], r, s, _, e => ⟨rfl, by simpa using e⟩
  | a :: x, b :: y, r, s, hl, e => by
    simp only [List.flatMap_cons, List.append_assoc] at e
    obtain ⟨h1, h2⟩ := h _ _ _ _ e
    obtain ⟨h3, h4⟩ := many_pf h x y r s (by simpa using hl) h2
    exact ⟨by rw [h1, h3], h4⟩
  | [], _ :: _, _, _, hl, _ => by simp at hl
  | _ :: _, [], _, _, hl, _ => by simp at hl
theorem encL_pf {α : Type} {f : α → List UInt8} (h : Pf f) : Pf (encL f) := by
  intro x y r s e
  simp only [encL, List.append_assoc] at e
  obtain ⟨h1, h2⟩ := sz_pf _ _ _ _ e
  exact many_pf h x y r s h1 h2
/-- One behind the other. -/
def enc2 {α β : Type} (f : α → List UInt8) (g : β → List UInt8) (p : α × β) : List UInt8 := f p.1 ++ g p.2
theorem enc2_pf {α β : Type} {f : α → List UInt8} {g : β → List UInt8} (hf : Pf f) (hg : Pf g) : Pf (enc2 f g) := by
  intro x y r s e
  simp only [enc2, List.append_assoc] at e
  obtain ⟨h1, h2⟩ := hf _ _ _ _ e
  obtain ⟨h3, h4⟩ := hg _ _ _ _ h2
  exact ⟨Prod.ext h1 h3, h4⟩
structure Ins where
  op : Int
  a : Int
  b : Int
  c : Int
  d : Int
  list : List Int
structure Fnc where
  name : ByteArray
  refs : List Bool
  params : Int
  captures : Int
  result : Bool
  code : List Ins
structure Prg where
  texts : List ByteArray
  globals : List Bool
  structs : List (List Bool)
  funcs : List Fnc
  main : Int
def Ins.tup (x : Ins) : Int × Int × Int × Int × Int × List Int := (x.op, x.a, x.b, x.c, x.d, x.list)
def Fnc.tup (x : Fnc) : ByteArray × List Bool × Int × Int × Bool × List Ins := (x.name, x.refs, x.params, x.captures, x.result, x.code)
def Prg.tup (x : Prg) : List ByteArray × List Bool × List (List Bool) × List Fnc × Int := (x.texts, x.globals, x.structs, x.funcs, x.main)
def Ins.of (t : Int × Int × Int × Int × Int × List Int) : Ins := ⟨t.1, t.2.1, t.2.2.1, t.2.2.2.1, t.2.2.2.2.1, t.2.2.2.2.2⟩
def Fnc.of (t : ByteArray × List Bool × Int × Int × Bool × List Ins) : Fnc := ⟨t.1, t.2.1, t.2.2.1, t.2.2.2.1, t.2.2.2.2.1, t.2.2.2.2.2⟩
def Prg.of (t : List ByteArray × List Bool × List (List Bool) × List Fnc × Int) : Prg := ⟨t.1, t.2.1, t.2.2.1, t.2.2.2.1, t.2.2.2.2⟩
theorem Ins.inj (x y : Ins) (h : x.tup = y.tup) : x = y := by cases x; cases y; simpa [Ins.tup] using h
theorem Fnc.inj (x y : Fnc) (h : x.tup = y.tup) : x = y := by cases x; cases y; simpa [Fnc.tup] using h
theorem Prg.inj (x y : Prg) (h : x.tup = y.tup) : x = y := by cases x; cases y; simpa [Prg.tup] using h
def encIt : Int × Int × Int × Int × Int × List Int → List UInt8 := enc2 encN (enc2 encN (enc2 encN (enc2 encN (enc2 encN (encL encN)))))
def encI (x : Ins) : List UInt8 := encIt x.tup
def encFt : ByteArray × List Bool × Int × Int × Bool × List Ins → List UInt8 := enc2 encT (enc2 (encL encB) (enc2 encN (enc2 encN (enc2 encB (encL encI)))))
def encF (x : Fnc) : List UInt8 := encFt x.tup
def encPt : List ByteArray × List Bool × List (List Bool) × List Fnc × Int → List UInt8 := enc2 (encL encT) (enc2 (encL encB) (enc2 (encL (encL encB)) (enc2 (encL encF) encN)))
def encP (x : Prg) : List UInt8 := encPt x.tup
theorem encI_pf : Pf encI := Pf.comp (g := Ins.tup) (enc2_pf encN_pf (enc2_pf encN_pf (enc2_pf encN_pf (enc2_pf encN_pf (enc2_pf encN_pf (encL_pf encN_pf)))))) Ins.inj
theorem encF_pf : Pf encF := Pf.comp (g := Fnc.tup) (enc2_pf encT_pf (enc2_pf (encL_pf encB_pf) (enc2_pf encN_pf (enc2_pf encN_pf (enc2_pf encB_pf (encL_pf encI_pf)))))) Fnc.inj
theorem encP_pf : Pf encP := Pf.comp (g := Prg.tup) (enc2_pf (encL_pf encT_pf) (enc2_pf (encL_pf encB_pf) (enc2_pf (encL_pf (encL_pf encB_pf)) (enc2_pf (encL_pf encF_pf) encN_pf)))) Prg.inj
theorem encP_inj {x y : Prg} (h : encP x = encP y) : x = y := (encP_pf x y [] [] (by rw [h])).1

/-- In b, from place i on, stands l. -/
def At (b : List UInt8) (i : Nat) (l : List UInt8) : Prop := ∃ r, b.drop i = l ++ r
theorem At.nil (b : List UInt8) (i : Nat) : At b i [] := ⟨_, rfl⟩
theorem At.app {b : List UInt8} {i : Nat} {l m : List UInt8} : At b i (l ++ m) ↔ At b i l ∧ At b (i + l.length) m := by
  constructor
  · rintro ⟨r, h⟩
    refine ⟨⟨m ++ r, by rw [h, List.append_assoc]⟩, r, ?_⟩
    rw [← List.drop_drop, h, List.append_assoc, List.drop_left]
  · rintro ⟨⟨r, h⟩, s, h2⟩
    rw [← List.drop_drop, h, List.drop_left] at h2
    exact ⟨s, by rw [h, h2, List.append_assoc]⟩
theorem At.len {b : List UInt8} {i : Nat} {l : List UInt8} (h : At b i l) : l.length ≤ b.length - i := by
  obtain ⟨r, h⟩ := h
  have := congrArg List.length h
  simp at this
  omega
theorem At.end_le {b : List UInt8} {i : Nat} {l : List UInt8} (h : At b i l) (hi : i ≤ b.length) : i + l.length ≤ b.length := by
  have := h.len
  omega
theorem At.uniq {α : Type} {f : α → List UInt8} (hf : Pf f) {b : List UInt8} {i : Nat} {x y : α} (hx : At b i (f x)) (hy : At b i (f y)) : x = y := by
  obtain ⟨r, h⟩ := hx
  obtain ⟨s, h2⟩ := hy
  exact (hf x y r s (h.symm.trans h2)).1
theorem At.one {b : List UInt8} {i : Nat} {c : UInt8} : At b i [c] ↔ b[i]? = some c := by
  constructor
  · rintro ⟨r, h⟩
    have := congrArg (fun l : List UInt8 => l[0]?) h
    simpa using this
  · intro h
    have hl : i < b.length := by
      rcases Nat.lt_or_ge i b.length with h1 | h1
      · exact h1
      · rw [List.getElem?_eq_none h1] at h; cases h
    rw [List.getElem?_eq_getElem hl] at h
    exact ⟨b.drop (i + 1), by rw [List.drop_eq_getElem_cons hl, Option.some.inj h]; rfl⟩
theorem At.take {b : List UInt8} {i n : Nat} : At b i ((b.drop i).take n) := ⟨(b.drop i).drop n, (List.take_append_drop _ _).symm⟩
theorem At.eq_take {b : List UInt8} {i : Nat} {l : List UInt8} (h : At b i l) : l = (b.drop i).take l.length := by
  obtain ⟨r, h⟩ := h
  rw [h]; simp
theorem At.all {b : List UInt8} {l : List UInt8} (h : At b 0 l) (hl : l.length = b.length) : b = l := by
  obtain ⟨r, h⟩ := h
  simp only [List.drop_zero] at h
  have := congrArg List.length h
  simp at this
  have hr : r = [] := List.length_eq_zero_iff.1 (by omega)
  rw [h, hr, List.append_nil]

/-- The first k bytes of a number that goes on behind them. -/
def pre : Nat → Nat → List UInt8
  | 0, _ => []
  | k + 1, n => UInt8.ofNat (n % 128 + 128) :: pre k (n / 128)
theorem pre_len : ∀ k n, (pre k n).length = k
  | 0, _ => rfl
  | k + 1, n => by simp [pre, pre_len k]
theorem pow7 (k : Nat) : 128 ^ (k + 1) = 128 * 128 ^ k := by rw [Nat.pow_succ, Nat.mul_comm]
theorem pre_snoc : ∀ (k n g : Nat), n < 128 ^ k → g < 128 → pre (k + 1) (n + g * 128 ^ k) = pre k n ++ [UInt8.ofNat (g + 128)]
  | 0, n, g, hn, hg => by
    have : n = 0 := by simpa using hn
    subst this
    simp only [pre, Nat.pow_zero, Nat.mul_one, Nat.zero_add, List.nil_append]
    rw [Nat.mod_eq_of_lt hg]
  | k + 1, n, g, hn, hg => by
    rw [pow7] at hn
    have e1 : (n + g * 128 ^ (k + 1)) % 128 = n % 128 := by rw [pow7, show g * (128 * 128 ^ k) = 128 * (g * 128 ^ k) by rw [← Nat.mul_assoc, Nat.mul_comm g, Nat.mul_assoc]]; omega
    have e2 : (n + g * 128 ^ (k + 1)) / 128 = n / 128 + g * 128 ^ k := by rw [pow7, show g * (128 * 128 ^ k) = 128 * (g * 128 ^ k) by rw [← Nat.mul_assoc, Nat.mul_comm g, Nat.mul_assoc]]; omega
    rw [pre, e1, e2, pre_snoc k (n / 128) g (by omega) hg]
    rfl
theorem sz_pre : ∀ (k n c : Nat), n < 128 ^ k → (k = 0 ∨ 0 < c) → sz (n + c * 128 ^ k) = pre k n ++ sz c
  | 0, n, c, hn, _ => by
    have : n = 0 := by simpa using hn
    subst this
    simp [pre]
  | k + 1, n, c, hn, hc => by
    have hc' : 0 < c := by omega
    rw [pow7] at hn
    have hp : 0 < 128 ^ k := Nat.pow_pos (by decide)
    have hcp : 1 * 128 ^ k ≤ c * 128 ^ k := Nat.mul_le_mul_right _ hc'
    have e0 : c * 128 ^ (k + 1) = 128 * (c * 128 ^ k) := by rw [pow7, ← Nat.mul_assoc, Nat.mul_comm c, Nat.mul_assoc]
    have e1 : (n + c * 128 ^ (k + 1)) % 128 = n % 128 := by rw [e0]; omega
    have e2 : (n + c * 128 ^ (k + 1)) / 128 = n / 128 + c * 128 ^ k := by rw [e0]; omega
    rw [sz_ge (by rw [e0]; omega), e1, e2, sz_pre k (n / 128) c (by omega) (.inr hc'), pre]
    rfl
/-- A number whose first k bytes are known. -/
theorem sz_split : ∀ (k n N : Nat) (b : List UInt8) (i : Nat), n < 128 ^ k → At b i (pre k n) → At b i (sz N) → ∃ M, N = n + M * 128 ^ k ∧ (k = 0 ∨ 0 < M) ∧ At b (i + k) (sz M)
  | 0, n, N, b, i, hn, _, h => by
    have : n = 0 := by simpa using hn
    exact ⟨N, by simp [this], .inl rfl, h⟩
  | k + 1, n, N, b, i, hn, hp, h => by
    rw [pow7] at hn
    rw [pre, show ∀ (c : UInt8) (l : List UInt8), c :: l = [c] ++ l from fun _ _ => rfl, At.app] at hp
    obtain ⟨h1, h2⟩ := hp
    by_cases hN : N < 128
    · rw [sz_lt hN] at h
      have := (At.one.1 h1).symm.trans (At.one.1 h)
      have := ofNat_inj (by omega) (by omega) (Option.some.inj this)
      omega
    · rw [sz_ge hN, show ∀ (c : UInt8) (l : List UInt8), c :: l = [c] ++ l from fun _ _ => rfl, At.app] at h
      obtain ⟨h3, h4⟩ := h
      have := (At.one.1 h1).symm.trans (At.one.1 h3)
      have e := ofNat_inj (by omega) (by omega) (Option.some.inj this)
      obtain ⟨M, hM, hM2, hM3⟩ := sz_split k (n / 128) (N / 128) b (i + 1) (by omega) h2 h4
      refine ⟨M, ?_, .inr ?_, by rw [show i + (k + 1) = i + 1 + k by omega]; exact hM3⟩
      · have e0 : M * 128 ^ (k + 1) = 128 * (M * 128 ^ k) := by rw [pow7, ← Nat.mul_assoc, Nat.mul_comm M, Nat.mul_assoc]
        rw [e0]; omega
      · rcases Nat.eq_zero_or_pos M with h0 | h0
        · subst h0
          exfalso
          have hk : N / 128 = n / 128 := by simpa using hM
          rcases hM2 with h5 | h5
          · subst h5
            simp only [Nat.pow_zero] at hn
            omega
          · omega
        · exact h0
theorem sz_head {b : List UInt8} {i M : Nat} (h : At b i (sz M)) : ∃ c, b[i]? = some c ∧ (c = 0 → M = 0) ∧ (M < 128 → c.toNat = M) := by
  by_cases hM : M < 128
  · rw [sz_lt hM] at h
    exact ⟨_, At.one.1 h, fun h0 => ofNat_inj (n := 0) (by omega) (by omega) h0, fun _ => ofNat_toNat (by omega)⟩
  · rw [sz_ge hM, show ∀ (c : UInt8) (l : List UInt8), c :: l = [c] ++ l from fun _ _ => rfl, At.app] at h
    refine ⟨_, At.one.1 h.1, fun h0 => ?_, fun h => absurd h hM⟩
    have := ofNat_inj (n := 0) (by omega) (by omega) h0
    omega
def okN (z : Int) : Prop := -9223372036854775808 ≤ z ∧ z ≤ 9223372036854775807
def okS (n : Nat) : Prop := n < 18446744073709551616
def okT (s : ByteArray) : Prop := okS s.size
def okB (_ : Bool) : Prop := True
def okL {α : Type} (ok : α → Prop) (l : List α) : Prop := okS l.length ∧ ∀ x ∈ l, ok x
def ok2 {α β : Type} (f : α → Prop) (g : β → Prop) (p : α × β) : Prop := f p.1 ∧ g p.2
def okIt : Int × Int × Int × Int × Int × List Int → Prop := ok2 okN (ok2 okN (ok2 okN (ok2 okN (ok2 okN (okL okN)))))
def okI (x : Ins) : Prop := okIt x.tup
def okFt : ByteArray × List Bool × Int × Int × Bool × List Ins → Prop := ok2 okT (ok2 (okL okB) (ok2 okN (ok2 okN (ok2 okB (okL okI)))))
def okF (x : Fnc) : Prop := okFt x.tup
def okPt : List ByteArray × List Bool × List (List Bool) × List Fnc × Int → Prop := ok2 (okL okT) (ok2 (okL okB) (ok2 (okL (okL okB)) (ok2 (okL okF) okN)))
def okP (x : Prg) : Prop := okPt x.tup
/-- What a reader found: it began at st (none: it could not go on), and is at st' now. -/
def Res {α : Type} (b : List UInt8) (st st' : Option Nat) (enc : α → List UInt8) (ok G : α → Prop) : Prop :=
  match st, st' with
  | some i, some i' => ∃ x, ok x ∧ At b i (enc x) ∧ i' = i + (enc x).length ∧ G x
  | some i, none => ∀ x, ok x → ¬ At b i (enc x)
  | none, none => True
  | none, some _ => False
theorem Res.stuck {α : Type} {b : List UInt8} {enc : α → List UInt8} {ok G : α → Prop} : Res b none none enc ok G := trivial
theorem Res.mono {α : Type} {b : List UInt8} {st st' : Option Nat} {enc : α → List UInt8} {ok G G' : α → Prop} (h : Res b st st' enc ok G) (hg : ∀ x, G x → G' x) : Res b st st' enc ok G' := by
  cases st <;> cases st' <;> simp only [Res] at h ⊢
  · exact h
  · obtain ⟨x, h1, h2, h3, h4⟩ := h
    exact ⟨x, h1, h2, h3, hg x h4⟩
theorem Res.seq {α β : Type} {b : List UInt8} {st st1 st2 : Option Nat} {f : α → List UInt8} {g : β → List UInt8} {ok1 G1 : α → Prop} {ok2' G2 : β → Prop} (hf : Pf f) (h1 : Res b st st1 f ok1 G1) (h2 : Res b st1 st2 g ok2' G2) :
    Res b st st2 (enc2 f g) (ok2 ok1 ok2') (fun p => G1 p.1 ∧ G2 p.2) := by
  cases st with
  | none =>
    cases st1 with
    | none => cases st2 with
      | none => trivial
      | some _ => exact h2.elim
    | some _ => exact h1.elim
  | some i =>
    cases st1 with
    | none => cases st2 with
      | none =>
        intro p hp ha
        exact h1 p.1 hp.1 (At.app.1 ha).1
      | some _ => exact h2.elim
    | some i1 =>
      obtain ⟨x, hx1, hx2, rfl, hx4⟩ := h1
      cases st2 with
      | none =>
        intro p hp ha
        have h3 := At.app.1 ha
        have := At.uniq hf h3.1 hx2
        rw [this] at h3
        exact h2 p.2 hp.2 h3.2
      | some i2 =>
        obtain ⟨y, hy1, hy2, hy3, hy4⟩ := h2
        refine ⟨(x, y), ⟨hx1, hy1⟩, At.app.2 ⟨hx2, hy2⟩, ?_, hx4, hy4⟩
        rw [hy3]
        show _ = i + (f x ++ g y).length
        rw [List.length_append]; omega
theorem Res.map {α β : Type} {b : List UInt8} {st st' : Option Nat} {enc : β → List UInt8} {ok G : β → Prop} (t : α → β) (u : β → α) (hu : ∀ y, t (u y) = y) (h : Res b st st' enc ok G) :
    Res b st st' (fun x => enc (t x)) (fun x => ok (t x)) (fun x => G (t x)) := by
  cases st <;> cases st' <;> simp only [Res] at h ⊢
  · exact fun x hx => h (t x) hx
  · obtain ⟨y, h1, h2, h3, h4⟩ := h
    exact ⟨u y, by rw [hu]; exact h1, by rw [hu]; exact h2, by rw [hu]; exact h3, by rw [hu]; exact h4⟩
/-- One item more of a list. -/
theorem list_end {α : Type} {b : List UInt8} {i n : Nat} {f : α → List UInt8} {ok : α → Prop} (hf : Pf f) {xs : List α} (hx : At b i (xs.flatMap f)) (hk : xs.length < n)
    (h : ∀ x, ok x → ¬ At b (i + (xs.flatMap f).length) (f x)) : ∀ l : List α, l.length = n → (∀ x ∈ l, ok x) → ¬ At b i (l.flatMap f) := by
  intro l hl ho ha
  have hsp : l = l.take xs.length ++ l.drop xs.length := (List.take_append_drop _ _).symm
  rw [hsp, List.flatMap_append, At.app] at ha
  obtain ⟨r, h1⟩ := hx
  obtain ⟨s, h2⟩ := ha.1
  have := (many_pf hf xs (l.take xs.length) r s (by simp; omega) (h1.symm.trans h2)).1
  rw [← this] at ha
  have hd : l.drop xs.length = l[xs.length] :: l.drop (xs.length + 1) := List.drop_eq_getElem_cons (by omega)
  rw [hd, List.flatMap_cons, At.app] at ha
  exact h _ (ho _ (List.getElem_mem _)) ha.2.1
end Go.Proofs.YtfkjjljhabjcjaaDoor.Cx
