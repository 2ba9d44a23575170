/- Rf0 Rf1 Rf2 Rf3 Rf4 Rf6 Rf7 Rf8, in one text. -/
import Derived.Test.YtjblmincldaklaaDoorMd
import Derived.Deep.AppendLies
namespace Go.Proofs.YtjblmincldaklaaDoor
open Go.RowKit Go.Proofs.YtjblmincldaklaaDoor.Hp
/-- A block of the list: where it begins, its room, the memory block of its words. -/
structure Rb where
  at_ : Nat
  room : Nat
  gw : Nat
def rbCells (b : Rb) : List Value := [.int .i64 b.at_, .int .i64 b.room, .slice (some ⟨b.gw, 0, none⟩) b.room b.room]
def rbAll (L : List Rb) : List Value := L.flatMap rbCells
theorem rbAll_len (L : List Rb) : (rbAll L).length = L.length * 3 := by
  induction L with
  | nil => rfl
  | cons b L ih => simp [rbAll, rbCells] at ih ⊢; omega
theorem rbAll_get : ∀ (L : List Rb) (i j : Nat) (b : Rb), L[i]? = some b → j < 3 → (rbAll L)[i * 3 + j]? = (rbCells b)[j]?
  | [], i, j, b, h, _ => by simp at h
  | c :: L, 0, j, b, h, hj => by
    simp at h; subst h
    show (rbCells c ++ rbAll L)[0 * 3 + j]? = _
    rw [Nat.zero_mul, Nat.zero_add, List.getElem?_append_left (by simp [rbCells]; omega)]
  | c :: L, i + 1, j, b, h, hj => by
    have ih := rbAll_get L i j b (by simpa using h) hj
    show (rbCells c ++ rbAll L)[(i + 1) * 3 + j]? = _
    rw [List.getElem?_append_right (by simp [rbCells]; omega)]
    have : (i + 1) * 3 + j - (rbCells c).length = i * 3 + j := by simp [rbCells]; omega
    rw [this]; exact ih
/-- The list has the blocks of the spans, rising. -/
structure Match (A : Nat → Kd) (L : List Rb) : Prop where
  sorted : L.Pairwise (fun a b => a.at_ < b.at_)
  room : ∀ b ∈ L, roomN A b.at_ = b.room ∧ b.room ≠ 0
  all : ∀ x, roomN A x ≠ 0 → ∃ b ∈ L, b.at_ = x
def hits (b : Rb) (s : Nat) : Prop := b.at_ < 64 * s + 64 ∧ 64 * s < b.at_ + b.room
instance (b : Rb) (s : Nat) : Decidable (hits b s) := inferInstanceAs (Decidable (_ ∧ _))
def cK : Kd → Int | .free => 0 | .cls c _ => ((2 ^ (c + 1) : Nat) : Int) | _ => -1
/-- Of a block that meets a span. -/
theorem hits_span {N : Nat} {A : Nat → Kd} (h : Inv N A) {x s : Nat} (hx : roomN A x ≠ 0) (h1 : x < 64 * s + 64) (h2 : 64 * s < x + roomN A x) : x / 64 = s ∨ (x / 64 < s ∧ A s = .tail ∧ 64 < roomN A x) := by
  rcases Nat.lt_trichotomy (x / 64) s with e | e | e
  · right
    unfold roomN at hx h2 ⊢
    cases ek : A (x / 64) with
    | free => rw [ek] at hx; exact absurd rfl hx
    | tail => rw [ek] at hx; exact absurd rfl hx
    | cls c u =>
      rw [ek] at hx h2
      obtain ⟨g1, g2, g3, g4⟩ := cls_off (h.cls _ _ _ ek).1 (by omega) hx
      rw [g3] at h2
      omega
    | head k =>
      obtain ⟨k1, k2, k3, k4⟩ := h.head _ _ ek
      rw [ek] at hx h2
      by_cases e0 : x % 64 = 0
      · simp only [roomK, if_pos e0] at h2 ⊢
        exact ⟨e, k4 s e (by omega), by omega⟩
      · simp only [roomK, if_neg e0] at hx
        exact absurd rfl hx
  · exact .inl e
  · omega
theorem class_hit {N : Nat} {A : Nat → Kd} {L : List Rb} (h : Inv N A) (m : Match A L) {b : Rb} (hb : b ∈ L) {s : Nat} (hh : hits b s) : cK (A s) = if 64 < b.room then -1 else (b.room : Int) := by
  obtain ⟨hr, h0⟩ := m.room b hb
  have hx : roomN A b.at_ ≠ 0 := by rw [hr]; exact h0
  rcases hits_span h hx hh.1 (by rw [hr]; exact hh.2) with e | ⟨_, e, e2⟩
  · unfold roomN at hr hx
    rw [e] at hr hx
    cases ek : A s with
    | free => rw [ek] at hx; exact absurd rfl hx
    | tail => rw [ek] at hx; exact absurd rfl hx
    | cls c u =>
      rw [ek] at hx hr
      obtain ⟨g1, g2, g3, g4⟩ := cls_off (h.cls _ _ _ ek).1 (by omega) hx
      rw [g3] at hr
      rw [← hr, if_neg (by omega)]
      rfl
    | head k =>
      obtain ⟨k1, _⟩ := h.head _ _ ek
      rw [ek] at hx hr
      by_cases e0 : b.at_ % 64 = 0
      · simp only [roomK, if_pos e0] at hr
        rw [if_pos (by omega)]
        rfl
      · simp only [roomK, if_neg e0] at hx
        exact absurd rfl hx
  · rw [e, if_pos (by rw [← hr]; exact e2)]
    rfl
theorem class_none {N : Nat} {A : Nat → Kd} {L : List Rb} (h : Inv N A) (m : Match A L) {s : Nat} (h1 : 1 ≤ s) (h2 : s < N) (hn : ∀ b ∈ L, ¬ hits b s) : A s = .free := by
  have key : ∀ x, roomN A x ≠ 0 → ¬ (x < 64 * s + 64 ∧ 64 * s < x + roomN A x) := fun x hx hc => by
    obtain ⟨b, hb, e⟩ := m.all x hx
    obtain ⟨hr, _⟩ := m.room b hb
    refine hn b hb ⟨by rw [e]; exact hc.1, ?_⟩
    rw [← hr, e]; exact hc.2
  have headK : ∀ t k, A t = .head k → roomN A (t * 64) = 64 * k := fun t k e => by
    unfold roomN
    rw [show t * 64 / 64 = t by omega, show t * 64 % 64 = 0 by omega, e]
    simp [roomK]
  cases ek : A s with
  | free => rfl
  | tail =>
    obtain ⟨t, k, e, a, b⟩ := h.tail s h1 h2 ek
    have := headK t k e
    have hk := (h.head t k e).1
    exact absurd ⟨by omega, by omega⟩ (key (t * 64) (by omega))
  | head k =>
    have := headK s k ek
    have hk := (h.head s k ek).1
    exact absurd ⟨by omega, by omega⟩ (key (s * 64) (by omega))
  | cls c u =>
    obtain ⟨hc, hu, hu2⟩ := h.cls s c u ek
    obtain ⟨j, hj⟩ := Nat.exists_testBit_of_ne_zero (Nat.pos_iff_ne_zero.1 hu)
    have hjq : j < 2 ^ (5 - c) := by
      apply Nat.lt_of_not_le
      intro hle
      have h0 : 0 < 2 ^ 2 ^ (5 - c) := Nat.pow_pos (by decide)
      have : u < 2 ^ j := Nat.lt_of_lt_of_le (show u < 2 ^ 2 ^ (5 - c) by unfold fullC at hu2; omega) (Nat.pow_le_pow_right (by decide) hle)
      rw [Nat.testBit_lt_two_pow this] at hj; cases hj
    have hp : 0 < 2 ^ (c + 1) := Nat.pow_pos (by decide)
    have ho : j * 2 ^ (c + 1) < 64 := by
      rcases c6 hc with rfl | rfl | rfl | rfl | rfl | rfl <;> simp at hjq ⊢ <;> omega
    have hr : roomN A (s * 64 + j * 2 ^ (c + 1)) = 2 ^ (c + 1) := by
      unfold roomN
      rw [show (s * 64 + j * 2 ^ (c + 1)) / 64 = s by omega, show (s * 64 + j * 2 ^ (c + 1)) % 64 = j * 2 ^ (c + 1) by omega, ek]
      simp only [roomK]
      rw [Nat.mul_mod_left, Nat.mul_div_cancel _ hp, hj, if_pos ⟨rfl, rfl⟩]
    exact absurd ⟨by omega, by rw [hr]; omega⟩ (key _ (by rw [hr]; omega))
theorem cK_zero {A : Nat → Kd} (s : Nat) : cK (A s) = 0 ↔ A s = .free := by
  cases e : A s with
  | free => simp [cK]
  | tail => simp [cK]
  | head k => simp [cK]
  | cls c u =>
    have hp : 0 < 2 ^ (c + 1) := Nat.pow_pos (by decide)
    simp only [cK]
    constructor
    · intro h; omega
    · intro h; cases h
end Go.Proofs.YtjblmincldaklaaDoor
namespace Go.Proofs.YtjblmincldaklaaDoor
open Go.RowKit Go.Proofs.YtjblmincldaklaaDoor.Hp
structure RefAt (w : World) (pb base N : Nat) (L : List Rb) (lv : Value) : Prop where
  cN : w.cell? ⟨pb, 0, none⟩ = some (.int .i64 N)
  cL : w.cell? ⟨pb, 1, none⟩ = some lv
  fL : w.frozen? ⟨pb, 1, none⟩ = false
  own : w.ownsRow base 79 3 lv L.length (rbAll L)
  few : L.length ≤ 100000
  ats : ∀ b ∈ L, b.at_ + b.room ≤ 1048576
theorem RefAt.form {w : World} {pb base N : Nat} {L : List Rb} {lv : Value} (h : RefAt w pb base N L lv) : ∃ ao cp, lv = .slice ao L.length cp ∧ (0 < L.length → ∃ g, ao = some ⟨g, 0, none⟩) := own_form h.own
theorem RefAt.cells {w : World} {pb base N g cp : Nat} {L : List Rb} (h : RefAt w pb base N L (.slice (some ⟨g, 0, none⟩) L.length cp)) {i : Nat} {b : Rb} (hb : L[i]? = some b) :
    w.cell? ⟨g, i * 3, none⟩ = some (.int .i64 b.at_) ∧ w.cell? ⟨g, i * 3 + 1, none⟩ = some (.int .i64 b.room) ∧ w.cell? ⟨g, i * 3 + 2, none⟩ = some (.slice (some ⟨b.gw, 0, none⟩) b.room b.room) := by
  have hi : i < L.length := by
    rcases Nat.lt_or_ge i L.length with h1 | h1
    · exact h1
    · rw [List.getElem?_eq_none h1] at hb; cases hb
  refine ⟨?_, ?_, ?_⟩
  · rw [h.own.cellAt (i * 3) (by omega)]
    have := rbAll_get L i 0 b hb (by decide)
    rw [Nat.add_zero] at this
    rw [this]; rfl
  · rw [h.own.cellAt (i * 3 + 1) (by omega), rbAll_get L i 1 b hb (by decide)]; rfl
  · rw [h.own.cellAt (i * 3 + 2) (by omega), rbAll_get L i 2 b hb (by decide)]; rfl
theorem RefAt.fr {w w' : World} {pb base N : Nat} {L : List Rb} {lv : Value} {K : Nat → Prop} (h : RefAt w pb base N L lv) (k : Fr K w w') (hp : ¬ K pb) (hb : ∀ g, lv.ownBlock = some g → ¬ K g) : RefAt w' pb base N L lv := by
  have e := k.block pb (World.block_lt_of_cell? w ⟨pb, 0, none⟩ h.cN) hp
  exact ⟨(World.cell?_of_block (w := w) (a := ⟨pb, 0, none⟩) e).trans h.cN, (World.cell?_of_block (w := w) (a := ⟨pb, 1, none⟩) e).trans h.cL, (World.frozen?_of_block (w := w) (a := ⟨pb, 1, none⟩) e).trans h.fL, own_blk h.own (fun g hg => k.block g (h.own.lt g hg).2 (hb g hg)), h.few, h.ats⟩
theorem RefAt.quiet {w w' : World} {pb base N : Nat} {L : List Rb} {lv : Value} (h : RefAt w pb base N L lv) (k : Fr (fun _ => False) w w') : RefAt w' pb base N L lv := h.fr k id (fun _ _ => id)
/-- The place of a block in the list, or -1. -/
def findI : List Rb → Int → Int → Int
  | [], _, _ => -1
  | b :: L, x, i => if (b.at_ : Int) = x then i else findI L x (i + 1)
set_option maxHeartbeats 1000000 in
theorem Find_any (pb base N : Nat) (L : List Rb) (lv : Value) (x : Int) (w : World) (h : RefAt w pb base N L lv) :
    Calls Tryd.prog 39 #[.pointer (some ⟨pb, 0, none⟩), .int .i64 x] w fun e w' => e = .returned (.int .i64 (findI L x 0)) ∧ w' = w := by
  obtain ⟨ao, cp, rfl, hg⟩ := h.form
  have cL := h.cL
  have hf := h.few
  have H := hide h
  have HG := hide hg
  clear h hg
  go_enter Tryd.func39, Tryd.ntmps39
  go_wp2
  go_loop [5] (fun t => ∃ i : Nat, i ≤ L.length ∧ t = .int .i64 i ∧ Hid (findI L x 0 = findI (L.drop i) x i)) (fun t => L.length - (intOf t).toNat)
  case atStart => exact ⟨0, by omega, rfl, hide (by simp)⟩
  case round =>
    obtain ⟨i, hi, rfl, hE⟩ := hrel
    by_cases hlt : i < L.length
    · obtain ⟨g, hg⟩ := unhide HG (by omega)
      subst hg
      obtain ⟨b, hb⟩ : ∃ b, L[i]? = some b := ⟨L[i], by simp [hlt]⟩
      have cc := ((unhide H).cells hb).1
      have hd : L.drop i = b :: L.drop (i + 1) := by
        rw [List.drop_eq_getElem_cons hlt]
        congr 1
        rw [List.getElem?_eq_getElem hlt] at hb
        exact Option.some.inj hb
      have HE : Hid (findI L x 0 = if (b.at_ : Int) = x then (i : Int) else findI (L.drop (i + 1)) x ((i : Int) + 1)) := hide (by rw [unhide hE, hd]; rfl)
      clear hE hd hb
      by_cases hx : (b.at_ : Int) = x
      · have HX := hide hx
        have hxb : ((b.at_ : Int) == x) = true := by simpa using hx
        clear hx
        go_wp2
        go_ret
        exact ⟨ret_int (by rw [unhide HE, if_pos (unhide HX)]), rfl⟩
      · have HX := hide hx
        have hxb : ((b.at_ : Int) == x) = false := by simpa using hx
        clear hx
        go_wp2
        go_round
        case rel => exact ⟨i + 1, by omega, by go_num, hide (by rw [unhide HE, if_neg (unhide HX)]; simp)⟩
        case measure => simp [intOf]; omega
    · have HE : Hid (findI L x 0 = -1) := hide (by rw [unhide hE, List.drop_eq_nil_of_le (by omega)]; rfl)
      clear hE
      go_wp2
      go_ret
      exact ⟨ret_int (by rw [unhide HE]), rfl⟩
set_option maxHeartbeats 1000000 in
theorem Class_any (pb base N : Nat) (L : List Rb) (lv : Value) (A : Nat → Kd) (s : Nat) (w : World) (h : RefAt w pb base N L lv) (hI : Inv N A) (hM : Match A L) (h1 : 1 ≤ s) (h2 : s < N) (hN : N ≤ 16384) :
    Calls Tryd.prog 42 #[.pointer (some ⟨pb, 0, none⟩), .int .i64 s] w fun e w' => e = .returned (.int .i64 (cK (A s))) ∧ Fr (fun _ => False) w w' := by
  obtain ⟨ao, cp, rfl, hg⟩ := h.form
  have hf := h.few
  have H := hide h
  have HG := hide hg
  have HI := hide hI
  have HM := hide hM
  clear h hg hI hM
  go_enter Tryd.func42, Tryd.ntmps42
  go_wp2
  go_loopw [5] (fun t wr => ∃ i : Nat, i ≤ L.length ∧ t = .int .i64 i ∧ Hid (∀ j b, j < i → L[j]? = some b → ¬ hits b s) ∧ Hid (Fr (fun _ => False) w wr)) (fun t _ => L.length - (intOf t).toNat)
  case atStart => exact ⟨0, by omega, rfl, hide (fun j b hj => by omega), hide (Fr.refl _ _)⟩
  case round =>
    obtain ⟨i, hi, rfl, hE, hF⟩ := hrel
    have hR := (unhide H).quiet (unhide hF)
    have cL := hR.cL
    by_cases hlt : i < L.length
    · obtain ⟨g, hg⟩ := unhide HG (by omega)
      subst hg
      obtain ⟨b, hb⟩ : ∃ b, L[i]? = some b := ⟨L[i], by simp [hlt]⟩
      obtain ⟨c0, c1, c2⟩ := hR.cells hb
      have hat := (unhide H).ats b (List.mem_of_getElem? hb)
      have hmem := List.mem_of_getElem? hb
      have HB := hide hb
      have HMm := hide hmem
      clear hR hb hmem
      by_cases hh : hits b s
      · have HC := hide (class_hit (unhide HI) (unhide HM) (unhide HMm) hh)
        have t1 : (b.at_ : Int) < 64 * (s : Int) + 64 := by have := hh.1; omega
        have t2 : 64 * (s : Int) < (b.at_ : Int) + (b.room : Int) := by have := hh.2; omega
        clear hh
        by_cases hr : 64 < b.room
        · have HR := hide hr
          go_wp2
          go_ret
          exact ⟨ret_int (by rw [unhide HC, if_pos (unhide HR)]), (unhide hF).alloc _⟩
        · have HR := hide hr
          go_wp2
          go_ret
          exact ⟨ret_int (by rw [unhide HC, if_neg (unhide HR)]), (unhide hF).alloc _⟩
      · have HH := hide hh
        have hd : ¬ (b.at_ : Int) < 64 * (s : Int) + 64 ∨ ¬ 64 * (s : Int) < (b.at_ : Int) + (b.room : Int) := by
          unfold hits at hh; omega
        clear hh
        rcases hd with hd | hd
        · go_wp2
          go_roundw
          case rel => exact ⟨i + 1, by omega, by go_num, hide (fun j b' hj hb' => by
            by_cases e : j = i
            · rw [e, unhide HB] at hb'; cases hb'; exact unhide HH
            · exact unhide hE j b' (by omega) hb'), hide ((unhide hF).alloc _)⟩
          case measure => simp [intOf]; omega
        · have hd1 : (b.at_ : Int) < 64 * (s : Int) + 64 := by omega
          go_wp2
          go_roundw
          case rel => exact ⟨i + 1, by omega, by go_num, hide (fun j b' hj hb' => by
            by_cases e : j = i
            · rw [e, unhide HB] at hb'; cases hb'; exact unhide HH
            · exact unhide hE j b' (by omega) hb'), hide ((unhide hF).alloc _)⟩
          case measure => simp [intOf]; omega
    · have HC : Hid (cK (A s) = 0) := hide (by
        rw [class_none (unhide HI) (unhide HM) h1 h2 (fun b hb => by
          obtain ⟨j, hj, e⟩ := List.mem_iff_getElem.1 hb
          exact unhide hE j b (by omega) (by rw [List.getElem?_eq_getElem hj, e]))]
        rfl)
      clear hR hE
      go_wp2
      go_ret
      exact ⟨ret_int (by rw [unhide HC]), unhide hF⟩
theorem cnt_free_zero (A : Nat → Kd) (h : A 0 = .tail) : cntN (fun s => frK (A s)) 1 = 0 := by simp [cntN, h, frK]
end Go.Proofs.YtjblmincldaklaaDoor
namespace Go.Proofs.YtjblmincldaklaaDoor
open Go.RowKit Go.Proofs.YtjblmincldaklaaDoor.Hp
def ins (b : Rb) : List Rb → List Rb
  | [] => [b]
  | c :: L => if b.at_ < c.at_ then b :: c :: L else c :: ins b L
theorem rbAll_snoc (L : List Rb) (b : Rb) : rbAll L ++ rbCells b = rbAll (L ++ [b]) := by simp [rbAll]
theorem rb_one (b : Rb) : ∀ u ∈ rbCells b, u.oneCell' = true := by intro u hu; simp [rbCells] at hu; rcases hu with rfl | rfl | rfl <;> rfl
theorem rb_news {w : World} (b : Rb) : ∀ j u, (rbCells b)[j]? = some u → (w.alloc (.cells #[.int .i64 b.at_, .int .i64 b.room, .slice (some ⟨b.gw, 0, none⟩) b.room b.room] 79)).cell? ((⟨w.heap.size, 0, none⟩ : Addr).add j) = some u := by
  intro j u hj
  match j, hj with
  | 0, hj => simp [rbCells] at hj; subst hj; simp [Addr.add]
  | 1, hj => simp [rbCells] at hj; subst hj; simp [Addr.add]
  | 2, hj => simp [rbCells] at hj; subst hj; simp [Addr.add]
  | j + 3, hj => simp [rbCells] at hj
theorem rb_news2 {w : World} (H : Nat) (hH : w.heap.size = H) (b : Rb) : ∀ j u, (rbCells b)[j]? = some u → (w.alloc (.cells #[.int .i64 b.at_, .int .i64 b.room, .slice (some ⟨b.gw, 0, none⟩) b.room b.room] 79)).cell? ((⟨H, 0, none⟩ : Addr).add j) = some u := by
  subst hH; exact rb_news b
theorem Tryd.info79 : (Tryd.prog.info? 79).map (fun i => (i.zero, i.size, i.bytes)) = some (some (.agg #[.int .i64 0, .int .i64 0, .slice none 0 0]), 3, 40) := by kernel_rfl
/-- What has been put out so far: at, room of the new block; done: it is in, its words lie in gw. -/
def Out (L : List Rb) (a r i : Nat) (done : Bool) (gw : Nat) (O : List Rb) : Prop :=
  if done then O ++ L.drop i = ins ⟨a, r, gw⟩ L else O = L.take i ∧ ∀ gw, ins ⟨a, r, gw⟩ L = L.take i ++ ins ⟨a, r, gw⟩ (L.drop i)
theorem drop_at {L : List Rb} {i : Nat} {c : Rb} (h : L[i]? = some c) : L.drop i = c :: L.drop (i + 1) := by
  have hl : i < L.length := by
    rcases Nat.lt_or_ge i L.length with h1 | h1
    · exact h1
    · rw [List.getElem?_eq_none h1] at h; cases h
  rw [List.drop_eq_getElem_cons hl]
  rw [List.getElem?_eq_getElem hl] at h
  rw [Option.some.inj h]
theorem take_at {L : List Rb} {i : Nat} {c : Rb} (h : L[i]? = some c) : L.take (i + 1) = L.take i ++ [c] := by
  rw [List.take_add_one, h]; rfl
theorem Out.start (L : List Rb) (a r gw : Nat) : Out L a r 0 false gw [] := by unfold Out; simp
theorem Out.skip {L O : List Rb} {a r i gw : Nat} {c : Rb} (h : Out L a r i false gw O) (hc : L[i]? = some c) (hle : c.at_ ≤ a) : Out L a r (i + 1) false gw (O ++ [c]) := by
  unfold Out at *
  simp only [Bool.false_eq_true, if_false] at *
  obtain ⟨h1, h2⟩ := h
  refine ⟨by rw [h1, take_at hc], fun g => ?_⟩
  rw [h2 g, drop_at hc, take_at hc, ins, if_neg (by simp; omega)]
  simp
theorem Out.put {L O : List Rb} {a r i gw gw' : Nat} {c : Rb} (h : Out L a r i false gw O) (hc : L[i]? = some c) (hlt : a < c.at_) : Out L a r i true gw' (O ++ [⟨a, r, gw'⟩]) := by
  unfold Out at *
  simp only [Bool.false_eq_true, if_false, if_true] at *
  obtain ⟨h1, h2⟩ := h
  rw [h2 gw', drop_at hc, ins, if_pos hlt, h1]
  simp
theorem Out.move {L O : List Rb} {a r i gw : Nat} {c : Rb} (h : Out L a r i true gw O) (hc : L[i]? = some c) : Out L a r (i + 1) true gw (O ++ [c]) := by
  unfold Out at *
  simp only [if_true] at *
  rw [← h, drop_at hc]; simp
theorem Out.endT {L O : List Rb} {a r gw : Nat} (h : Out L a r L.length true gw O) : O = ins ⟨a, r, gw⟩ L := by
  unfold Out at h
  simpa using h
theorem Out.endF {L O : List Rb} {a r gw gw' : Nat} (h : Out L a r L.length false gw O) : O ++ [⟨a, r, gw'⟩] = ins ⟨a, r, gw'⟩ L := by
  unfold Out at h
  simp only [Bool.false_eq_true, if_false] at h
  rw [h.2 gw', h.1]; simp [ins]
theorem ins_len (b : Rb) : ∀ L, (ins b L).length = L.length + 1
  | [] => rfl
  | c :: L => by
    unfold ins
    split
    · simp
    · simp [ins_len b L]
theorem mem_ins {b x : Rb} : ∀ {L : List Rb}, x ∈ ins b L ↔ x = b ∨ x ∈ L
  | [] => by simp [ins]
  | c :: L => by
    unfold ins
    split
    · simp
    · simp only [List.mem_cons, mem_ins (L := L)]
      constructor
      · rintro (h | h | h)
        · exact .inr (.inl h)
        · exact .inl h
        · exact .inr (.inr h)
      · rintro (h | h | h)
        · exact .inr (.inl h)
        · exact .inl h
        · exact .inr (.inr h)
/-- The state of the out slice in memory. -/
structure OutAt (w0 w : World) (O : List Rb) (v : Value) (done : Bool) (gw r : Nat) : Prop where
  own : w.ownsRow w0.heap.size 79 3 v O.length (rbAll O)
  far : Fr (fun _ => False) w0 w
  words : done = true → w0.heap.size ≤ gw ∧ v.ownBlock ≠ some gw ∧ gw < w.heap.size ∧ Row w gw r (fun _ => .int .i64 0)
theorem own_low {w : World} {base base' e size n : Nat} {v : Value} {xs : List Value} (hb : base' ≤ base) (h : w.ownsRow base e size v n xs) : w.ownsRow base' e size v n xs := by
  refine ⟨h.1, ?_⟩
  rcases h.2 with h2 | ⟨g, cap, cur, e1, e2, r⟩
  · exact .inl h2
  · exact .inr ⟨g, cap, cur, e1, Nat.le_trans hb e2, r⟩
/-- Behind an append of one block. -/
theorem OutAt.push {w0 w w1 : World} {O : List Rb} {v : Value} {done : Bool} {gw r g cap : Nat} (h : OutAt w0 w O v done gw r) (b : Rb) (o : Obj)
    (ho : w1.ownsRow w0.heap.size 79 3 (.slice (some ⟨g, 0, none⟩) (O.length + 1) cap) (O.length + 1) (rbAll O ++ rbCells b)) (hg : (w.alloc o).grownBy w1 v.ownBlock) (hat : v.ownBlock = some g ∨ g = w.heap.size + 1) :
    OutAt w0 w1 (O ++ [b]) (.slice (some ⟨g, 0, none⟩) (O.length + 1) cap) done gw r := by
  have hF : Fr (fun j => some j = v.ownBlock) w w1 := ((Fr.refl _ w).alloc o).trans (Fr.grown hg)
  have hlo : ∀ j, some j = v.ownBlock → w0.heap.size ≤ j := fun j e => (h.own.lt j e.symm).1
  refine ⟨by rw [List.length_append, ← rbAll_snoc]; exact ho, h.far.up hF hlo, fun hd => ?_⟩
  obtain ⟨k1, k2, k3, k4⟩ := h.words hd
  refine ⟨k1, fun e => ?_, Nat.lt_of_lt_of_le k3 hF.size, k4.fr hF (fun e => k2 e.symm)⟩
  have eg : g = gw := by simpa [Value.ownBlock] using e
  rcases hat with h1 | h1
  · exact k2 (by rw [h1, eg])
  · omega
/-- Behind the making of the new block's words. -/
theorem OutAt.make {w0 w : World} {O : List Rb} {v : Value} {gw0 r : Nat} (h : OutAt w0 w O v false gw0 r) : OutAt w0 (w.alloc (.cells (madeCells #[.int .i64 0] r) 3)) O v true w.heap.size r := by
  refine ⟨h.own.alloc _, h.far.alloc _, fun _ => ⟨h.far.size, fun e => ?_, by simp, (Row.made w #[.int .i64 0] r 3).ext fun i _ => by simp [Nat.mod_one]⟩⟩
  have := (h.own.lt _ e).2
  omega
def AddP (w0 : World) (pb base N a r : Nat) (L : List Rb) (e : Ending) (w' : World) : Prop :=
  e = .returned (.int .i64 (a : Int)) ∧ ∃ gw lv, RefAt w' pb base N (ins ⟨a, r, gw⟩ L) lv ∧ w0.heap.size ≤ gw ∧ gw < w'.heap.size ∧ Row w' gw r (fun _ => .int .i64 0) ∧ (∀ g, lv.ownBlock = some g → w0.heap.size ≤ g ∧ g ≠ gw) ∧ Fr (· = pb) w0 w'
theorem AddP.of {w0 w : World} {pb base N a r gw g cap : Nat} {L : List Rb} {lv0 : Value} (h : RefAt w0 pb base N L lv0) (hb : base ≤ w0.heap.size) (hr : a + r ≤ 1048576) (hf : L.length + 1 ≤ 100000) (ho : OutAt w0 w (ins ⟨a, r, gw⟩ L) (.slice (some ⟨g, 0, none⟩) (L.length + 1) cap) true gw r) :
    AddP w0 pb base N a r L (.returned (.int .i64 (a : Int))) (w.setCell ⟨pb, 1, none⟩ (.slice (some ⟨g, 0, none⟩) (L.length + 1) cap)) := by
  have hpb : pb < w0.heap.size := World.block_lt_of_cell? w0 ⟨pb, 0, none⟩ h.cN
  obtain ⟨k1, k2, k3, k4⟩ := ho.words rfl
  have h2 := h.quiet ho.far
  have hg : w0.heap.size ≤ g := (ho.own.lt g rfl).1
  have hS : Fr (· = pb) w (w.setCell ⟨pb, 1, none⟩ (.slice (some ⟨g, 0, none⟩) (L.length + 1) cap)) := (Fr.refl (· = pb) w).setCell (p := ⟨pb, 1, none⟩) rfl _
  refine ⟨rfl, gw, _, ⟨?_, World.cell?_setCell_same _ _ _ h2.cL, by rw [World.frozen?_setCell]; exact h2.fL, ?_, by rw [ins_len]; exact hf, fun b hb' => ?_⟩, k1, Nat.lt_of_lt_of_le k3 hS.size, k4.fr hS (by omega), fun x hx => ?_, (ho.far.mono fun _ x => x.elim).trans hS⟩
  · rw [World.cell?_setCell_other _ _ _ _ (by intro e; injection e with _ e2; cases e2)]; exact h2.cN
  · rw [ins_len]
    have := own_low hb ho.own
    rw [ins_len] at this
    exact own_blk this (fun x hx => hS.block x (ho.own.lt x hx).2 (fun e => by
      have : x = g := by simpa [Value.ownBlock] using hx.symm
      omega))
  · rcases mem_ins.1 hb' with e | e
    · subst e; exact hr
    · exact h.ats b e
  · have : x = g := by simpa [Value.ownBlock] using hx.symm
    subst this
    exact ⟨hg, fun e => k2 (by rw [← e]; rfl)⟩
set_option maxRecDepth 100000 in
set_option maxHeartbeats 4000000 in
theorem add_ref (pb base N a r : Nat) (L : List Rb) (lv : Value) (w : World) (h : RefAt w pb base N L lv) (hb : base ≤ w.heap.size) (hr : a + r ≤ 1048576) (hf : L.length ≤ 5000) :
    Calls Tryd.prog 52 #[.pointer (some ⟨pb, 0, none⟩), .int .i64 a, .int .i64 r] w fun e w' => AddP w pb base N a r L e w' := by
  obtain ⟨ao, cp, rfl, hg⟩ := h.form
  have H := hide h
  have HG := hide hg
  have HEnd : Hid (∀ w1 gw g cap, OutAt w w1 (ins ⟨a, r, gw⟩ L) (.slice (some ⟨g, 0, none⟩) (L.length + 1) cap) true gw r → AddP w pb base N a r L (.returned (.int .i64 (a : Int))) (w1.setCell ⟨pb, 1, none⟩ (.slice (some ⟨g, 0, none⟩) (L.length + 1) cap))) := hide fun w1 gw g cap ho => AddP.of h hb hr (by omega) ho
  have hmk := fun W => make34 W r (by omega)
  have H0 : Hid (OutAt w w [] (.slice none 0 0) false 0 r) := hide ⟨by have := World.ownsRow_nil w w.heap.size 79 3; exact this, Fr.refl _ _, fun h => by cases h⟩
  have hZ : Hid (∀ W : World, Row.made W #[.int .i64 0] r 3 = Row.made W #[.int .i64 0] r 3) := hide fun _ => rfl
  clear h hg hZ
  obtain ⟨i1, hi, hz0, hz1, hz2⟩ := info_parts Tryd.info79
  go_enter Tryd.func52, Tryd.ntmps52
  go_wp2
  go_loopw [7, 8, 9] (fun v d t wr => ∃ i : Nat, i ≤ L.length ∧ t = .int .i64 i ∧ ∃ (done : Bool) (gw : Nat) (O : List Rb) (ao : Option Addr) (n cp : Nat), d = .bool done ∧ v = .slice ao n cp ∧ Hid (n = O.length ∧ O.length = i + if done then 1 else 0) ∧ Hid (Out L a r i done gw O) ∧ Hid (OutAt w wr O (.slice ao n cp) done gw r)) (fun _ _ t _ => L.length - (intOf t).toNat)
  case atStart => exact ⟨0, by omega, rfl, false, 0, [], none, 0, 0, rfl, rfl, hide ⟨rfl, rfl⟩, hide (Out.start L a r 0), H0⟩
  case round =>
    obtain ⟨i, hi', rfl, done, gw, O, ao1, n, cp1, rfl, rfl, hOl, hO, hOA⟩ := hrel
    have hR := (unhide H).quiet (unhide hOA).far
    have cL := hR.cL
    have fL := hR.fL
    obtain ⟨rfl, hOl2⟩ := unhide hOl
    have hOn : O.length ≤ 5001 := by rw [hOl2]; split <;> omega
    have HOl2 := hide hOl2
    have hsz := (unhide hOA).far.size
    clear hOl hOl2
    by_cases hlt : i < L.length
    · obtain ⟨g, hg⟩ := unhide HG (by omega)
      subst hg
      obtain ⟨c, hc⟩ : ∃ c, L[i]? = some c := ⟨L[i], by simp [hlt]⟩
      obtain ⟨c0, c1, c2⟩ := hR.cells hc
      have HCc := hide hc
      clear hc hR
      cases done with
      | true =>
        go_wp2_with (first | (at_builtin; refine wpList_append_lies _ rfl (.tmp 41) (.tmp 49) 57 rfl w.heap.size 79 i1 (.agg #[.int .i64 0, .int .i64 0, .slice none 0 0]) 3 40 Tryd.underlying57 hi hz0 hz1 hz2 rfl (by decide) (.slice ao1 O.length cp1) O.length (rbAll O) rfl ((unhide hOA).own.alloc _) ⟨wr.heap.size, 0, none⟩ 1 1 (rbCells c) rfl rfl (rb_news c) (rb_one c) (by decide) (by unfold maxLen; omega) (by omega) (by simp; omega) _ rfl ?_))
        intro g2 cap2 w2 ho2 hg2 hat2 _
        have HN := hide ((unhide hOA).push c _ ho2 hg2 (by simpa using hat2))
        clear ho2 hg2 hat2
        go_wp2
        go_roundw
        case rel => exact ⟨i + 1, by omega, by go_num, true, gw, O ++ [c], _, _, _, rfl, rfl, hide ⟨by simp, by have := unhide HOl2; simp at this ⊢; omega⟩, hide ((unhide hO).move (unhide HCc)), HN⟩
        case measure => simp [intOf]; omega
      | false =>
        by_cases hac : a < c.at_
        · have HMk := hide (unhide hOA).make
          go_wp2_with (first | (at_builtin; refine wpList_append_lies _ rfl (.tmp 33) (.tmp 39) 57 rfl w.heap.size 79 i1 (.agg #[.int .i64 0, .int .i64 0, .slice none 0 0]) 3 40 Tryd.underlying57 hi hz0 hz1 hz2 rfl (by decide) (.slice ao1 O.length cp1) O.length (rbAll O) rfl ((unhide HMk).own.alloc _) ⟨wr.heap.size + 1, 0, none⟩ 1 1 (rbCells ⟨a, r, wr.heap.size⟩) rfl rfl (rb_news2 _ (by simp) ⟨a, r, wr.heap.size⟩) (rb_one ⟨a, r, wr.heap.size⟩) (by decide) (by unfold maxLen; omega) (by omega) (by simp; omega) _ rfl ?_))
          intro g2 cap2 w2 ho2 hg2 hat2 _
          have hN := (unhide HMk).push ⟨a, r, wr.heap.size⟩ _ ho2 hg2 (by simpa using hat2)
          have HN := hide hN
          have hR2 := (unhide H).quiet hN.far
          have cL2 := hR2.cL
          have fL2 := hR2.fL
          obtain ⟨d0, d1, d2⟩ := hR2.cells (unhide HCc)
          have hsz2 := hN.far.size
          clear ho2 hg2 hat2 hN hR2 cL fL c0 c1 c2
          go_wp2_with (first | (at_builtin; refine wpList_append_lies _ rfl (.tmp 41) (.tmp 49) 57 rfl w.heap.size 79 i1 (.agg #[.int .i64 0, .int .i64 0, .slice none 0 0]) 3 40 Tryd.underlying57 hi hz0 hz1 hz2 rfl (by decide) (.slice (some ⟨g2, 0, none⟩) (O.length + 1) cap2) (O.length + 1) (rbAll (O ++ [⟨a, r, wr.heap.size⟩])) rfl (by have := (unhide HN).own; rw [List.length_append] at this; exact this.alloc _) ⟨w2.heap.size, 0, none⟩ 1 1 (rbCells c) rfl rfl (rb_news c) (rb_one c) (by decide) (by unfold maxLen;  omega) (by  omega) (by simp; omega) _ rfl ?_))
          intro g3 cap3 w3 ho3 hg3 hat3 _
          have HN3 := hide ((unhide HN).push c _ (by rw [List.length_append]; exact ho3) hg3 (by simpa using hat3))
          rw [List.length_append] at HN3
          clear ho3 hg3 hat3
          go_wp2
          go_roundw
          case rel => exact ⟨i + 1, by omega, by go_num, true, wr.heap.size, (O ++ [⟨a, r, wr.heap.size⟩]) ++ [c], _, _, _, rfl, rfl, hide ⟨by simp, by have := unhide HOl2; simp at this ⊢; omega⟩, hide (((unhide hO).put (unhide HCc) hac).move (unhide HCc)), HN3⟩
          case measure => simp [intOf]; omega
        · go_wp2_with (first | (at_builtin; refine wpList_append_lies _ rfl (.tmp 41) (.tmp 49) 57 rfl w.heap.size 79 i1 (.agg #[.int .i64 0, .int .i64 0, .slice none 0 0]) 3 40 Tryd.underlying57 hi hz0 hz1 hz2 rfl (by decide) (.slice ao1 O.length cp1) O.length (rbAll O) rfl ((unhide hOA).own.alloc _) ⟨wr.heap.size, 0, none⟩ 1 1 (rbCells c) rfl rfl (rb_news c) (rb_one c) (by decide) (by unfold maxLen; omega) (by omega) (by simp; omega) _ rfl ?_))
          intro g2 cap2 w2 ho2 hg2 hat2 _
          have HN := hide ((unhide hOA).push c _ ho2 hg2 (by simpa using hat2))
          clear ho2 hg2 hat2
          go_wp2
          go_roundw
          case rel => exact ⟨i + 1, by omega, by go_num, false, gw, O ++ [c], _, _, _, rfl, rfl, hide ⟨by simp, by have := unhide HOl2; simp at this ⊢; omega⟩, hide ((unhide hO).skip (unhide HCc) (by omega)), HN⟩
          case measure => simp [intOf]; omega
    · have ei : i = L.length := by omega
      subst ei
      cases done with
      | true =>
        obtain ⟨ao2, cp2, hv2, hg2⟩ := own_form (unhide hOA).own
        obtain ⟨g, hg⟩ := hg2 (by rw [unhide HOl2]; simp)
        obtain ⟨rfl, rfl⟩ : ao1 = ao2 ∧ cp1 = cp2 := by injection hv2 with h1 h2 h3; exact ⟨h1, h3⟩
        subst hg
        have HF : Hid (AddP w pb base N a r L (.returned (.int .i64 (a : Int))) (wr.setCell ⟨pb, 1, none⟩ (.slice (some ⟨g, 0, none⟩) O.length cp1))) := hide (by
          have e := (unhide hO).endT
          have hl := ins_len ⟨a, r, gw⟩ L
          rw [← e] at hl
          have hx := unhide hOA
          rw [hl] at hx ⊢
          rw [e] at hx
          exact unhide HEnd wr gw g cp1 hx)
        clear hv2 hg2
        go_wp2
        go_ret
        exact unhide HF
      | false =>
        have HMk := hide (unhide hOA).make
        go_wp2_with (first | (at_builtin; refine wpList_append_lies _ rfl (.tmp 53) (.tmp 59) 57 rfl w.heap.size 79 i1 (.agg #[.int .i64 0, .int .i64 0, .slice none 0 0]) 3 40 Tryd.underlying57 hi hz0 hz1 hz2 rfl (by decide) (.slice ao1 O.length cp1) O.length (rbAll O) rfl ((unhide HMk).own.alloc _) ⟨wr.heap.size + 1, 0, none⟩ 1 1 (rbCells ⟨a, r, wr.heap.size⟩) rfl rfl (rb_news2 _ (by simp) ⟨a, r, wr.heap.size⟩) (rb_one ⟨a, r, wr.heap.size⟩) (by decide) (by unfold maxLen; omega) (by omega) (by simp; omega) _ rfl ?_))
        intro g2 cap2 w2 ho2 hg2 hat2 _
        have hN := (unhide HMk).push ⟨a, r, wr.heap.size⟩ _ ho2 hg2 (by simpa using hat2)
        have HF : Hid (AddP w pb base N a r L (.returned (.int .i64 (a : Int))) (w2.setCell ⟨pb, 1, none⟩ (.slice (some ⟨g2, 0, none⟩) (O.length + 1) cap2))) := hide (by
          have hl := unhide HOl2
          simp at hl
          have hx := hN
          rw [hl] at hx ⊢
          rw [(unhide hO).endF] at hx
          exact unhide HEnd w2 wr.heap.size g2 cap2 hx)
        have hR2 := (unhide H).quiet hN.far
        have cL2 := hR2.cL
        have fL2 := hR2.fL
        clear ho2 hg2 hat2 hN hR2 cL fL
        go_wp2
        go_ret
        exact unhide HF
end Go.Proofs.YtjblmincldaklaaDoor
namespace Go.Proofs.YtjblmincldaklaaDoor
open Go.RowKit Go.Proofs.YtjblmincldaklaaDoor.Hp
theorem AddP.pre {w0 w1 w' : World} {pb base N a r : Nat} {L : List Rb} {e : Ending} (k : Fr (fun _ => False) w0 w1) (h : AddP w1 pb base N a r L e w') : AddP w0 pb base N a r L e w' := by
  obtain ⟨e1, gw, lv, h1, h2, h3, h4, h5, h6⟩ := h
  have := k.size
  exact ⟨e1, gw, lv, h1, by omega, h3, h4, fun g hg => ⟨by have := (h5 g hg).1; omega, (h5 g hg).2⟩, (k.mono fun _ x => x.elim).trans h6⟩
def RAllocP (w0 : World) (pb base N m : Nat) (A : Nat → Kd) (L : List Rb) (e : Ending) (w' : World) : Prop :=
  (∃ a A', Goes N A m a A' ∧ e = .returned (.tuple #[.int .i64 (a : Int), .bool true]) ∧ AddP w0 pb base N a (roomOfM m) L (.returned (.int .i64 (a : Int))) w') ∨ (NoPlace N A m ∧ e = .returned (.tuple #[.int .i64 0, .bool false]) ∧ Fr (fun _ => False) w0 w')
/-- The free spans in a row ahead of s. -/
structure RowI (A : Nat → Kd) (k s hv : Nat) : Prop where
  le : hv < s
  lt : hv < k
  fr : ∀ t, s - hv ≤ t → t < s → A t = .free
  no : ∀ g, g < s - hv → ∃ t, g ≤ t ∧ t < g + k ∧ A t ≠ .free
theorem RowI.start {A : Nat → Kd} {k : Nat} (h0 : A 0 = .tail) (hk : 0 < k) : RowI A k 1 0 :=
  ⟨by omega, hk, fun t a b => by omega, fun g hg => ⟨0, by omega, by omega, by rw [h0]; intro h; cases h⟩⟩
theorem RowI.more {A : Nat → Kd} {k s hv : Nat} (h : RowI A k s hv) (e : A s = .free) (hlt : hv + 1 < k) : RowI A k (s + 1) (hv + 1) := by
  have := h.le
  refine ⟨by omega, hlt, fun t a b => ?_, fun g hg => h.no g (by omega)⟩
  by_cases e2 : t = s
  · rw [e2]; exact e
  · exact h.fr t (by omega) (by omega)
theorem RowI.stop {A : Nat → Kd} {k s hv : Nat} (h : RowI A k s hv) (e : A s ≠ .free) : RowI A k (s + 1) 0 := by
  have := h.le
  have := h.lt
  refine ⟨by omega, by omega, fun t a b => by omega, fun g hg => ?_⟩
  by_cases e2 : g < s - hv
  · exact h.no g e2
  · exact ⟨s, by omega, by omega, e⟩
theorem RowI.goes {A : Nat → Kd} {N m k s hv : Nat} (h : RowI A k s hv) (e : A s = .free) (hlt : hv + 1 = k) (hs : s < N) (hm : 64 < m) (hk : k = (m + 63) / 64) : ∃ A', Goes N A m ((s - hv) * 64) A' := by
  have := h.le
  refine ⟨_, Goes.row (s - hv) k hm hk (by omega) (fun t a b => ?_) h.no⟩
  by_cases e2 : t = s
  · rw [e2]; exact e
  · exact h.fr t (by omega) (by omega)
theorem RowI.none {A : Nat → Kd} {N m k hv : Nat} (h : RowI A k N hv) (hm : 64 < m) (hk : k = (m + 63) / 64) : NoPlace N A m := by
  have := h.le
  have := h.lt
  subst hk
  exact .inr ⟨hm, fun g hg => h.no g (by omega)⟩
set_option maxRecDepth 100000 in
set_option maxHeartbeats 2000000 in
theorem row_ref (pb base N m k : Nat) (L : List Rb) (lv : Value) (A : Nat → Kd) (w : World) (h : RefAt w pb base N L lv) (hb : base ≤ w.heap.size) (hI : Inv N A) (hM : Match A L) (hN1 : 1 ≤ N) (hN : N ≤ 128) (hf : L.length ≤ 5000) (hm : 64 < m) (hm2 : m ≤ 16448) (hk : k = (m + 63) / 64) :
    Calls Tryd.prog 51 #[.pointer (some ⟨pb, 0, none⟩), .int .i64 k] w fun e w' => RAllocP w pb base N m A L e w' := by
  have hr : roomOfM m = 64 * k := by unfold roomOfM; rw [if_neg (by omega), hk]
  have hk1 : 2 ≤ k := by omega
  have hk2 : k ≤ 257 := by omega
  have H := hide h
  have HI := hide hI
  have HM := hide hM
  have HS := hide (RowI.start (k := k) (A := A) hI.zero (by omega))
  have HR := hide hr
  have HK := hide hk
  clear h hI hM hr hk
  go_enter Tryd.func51, Tryd.ntmps51
  go_wp2
  go_loopw [4, 5, 6, 7] (fun t4 t5 t u wr => t4 = .int .i64 0 ∧ t5 = .bool false ∧ ∃ s hv : Nat, 1 ≤ s ∧ s ≤ N ∧ hv < s ∧ hv < k ∧ t = .int .i64 hv ∧ u = .int .i64 s ∧ Hid (RowI A k s hv) ∧ Hid (Fr (fun _ => False) w wr)) (fun _ _ _ u _ => N - (intOf u).toNat)
  case atStart => exact ⟨rfl, rfl, 1, 0, by omega, by omega, by omega, by omega, rfl, rfl, HS, hide (Fr.refl _ _)⟩
  case round =>
    obtain ⟨rfl, rfl, s, hv, hs1, hs2, hv1, hv2, rfl, rfl, hRo, hF⟩ := hrel
    have hR := (unhide H).quiet (unhide hF)
    have cN := hR.cN
    by_cases hlt : s < N
    · have HC := hide (Class_any pb base N L lv A s wr hR (unhide HI) (unhide HM) hs1 hlt (by omega))
      clear hR
      by_cases hfr : A s = .free
      · rw [(cK_zero s).2 hfr] at HC
        go_wp2_with fail
        refine (unhide HC).mono ?_
        rintro e w1 ⟨rfl, hF1⟩
        have hF2 := (unhide hF).trans hF1
        by_cases hlk : hv + 1 = k
        · obtain ⟨A', hgo⟩ := (unhide hRo).goes hfr hlk hlt hm (unhide HK)
          have HGo := hide hgo
          have HF2 := hide hF2
          have hsz := hF2.size
          have hA := add_ref pb base N ((s - hv) * 64) (64 * k) L lv w1 ((unhide H).quiet hF2) (by omega) (by omega) hf
          have HA := hide hA
          rw [show (((s - hv) * 64 : Nat) : Int) = 64 * ((s : Int) - (k : Int) + 1) by omega, show ((64 * k : Nat) : Int) = 64 * (k : Int) by omega] at HA
          clear hF1 hF2 hfr hgo hA HC
          go_wp2_with fail
          refine (unhide HA).mono ?_
          intro e w2 hP
          have he := hP.1
          subst he
          have HP := hide hP
          clear hP HA
          go_wp2
          go_ret2
          exact .inl ⟨_, _, unhide HGo, rfl, by rw [unhide HR]; exact (unhide HP).pre (unhide HF2)⟩
        · have HF2 := hide hF2
          have HRo := hide ((unhide hRo).more hfr (by omega))
          clear hF1 hF2 hfr HC
          go_wp2
          go_roundw
          case rel => exact ⟨rfl, rfl, s + 1, hv + 1, by omega, by omega, by omega, by omega, by go_num, by go_num, HRo, HF2⟩
          case measure => simp [intOf]; omega
      · have hne : cK (A s) ≠ 0 := fun e => hfr ((cK_zero s).1 e)
        have HRo := hide ((unhide hRo).stop hfr)
        clear hfr
        generalize cK (A s) = z at *
        go_wp2_with fail
        refine (unhide HC).mono ?_
        rintro e w1 ⟨rfl, hF1⟩
        have HF2 := hide ((unhide hF).trans hF1)
        clear hF1 HC
        go_wp2
        go_roundw
        case rel => exact ⟨rfl, rfl, s + 1, 0, by omega, by omega, by omega, by omega, rfl, by go_num, HRo, HF2⟩
        case measure => simp [intOf]; omega
    · have es : s = N := by omega
      subst es
      have HP := hide ((unhide hRo).none hm (unhide HK))
      clear hR
      go_wp2
      go_ret2
      exact .inr ⟨unhide HP, rfl, unhide hF⟩
end Go.Proofs.YtjblmincldaklaaDoor
namespace Go.Proofs.YtjblmincldaklaaDoor
open Go.RowKit Go.Proofs.YtjblmincldaklaaDoor.Hp
theorem findI_none {x : Int} : ∀ (L : List Rb) (i : Int), (∀ b ∈ L, (b.at_ : Int) ≠ x) → findI L x i = -1
  | [], _, _ => rfl
  | b :: L, i, h => by
    unfold findI
    rw [if_neg (h b (by simp))]
    exact findI_none L _ fun c hc => h c (by simp [hc])
theorem findI_some {x : Int} : ∀ (L : List Rb) (i : Int) (b : Rb), b ∈ L → (b.at_ : Int) = x → i ≤ findI L x i
  | [], _, _, hb, _ => by simp at hb
  | c :: L, i, b, hb, e => by
    unfold findI
    split
    · exact Int.le_refl _
    · rename_i hne
      rcases List.mem_cons.1 hb with h | h
      · subst h; exact absurd e hne
      · have := findI_some L (i + 1) b h e
        omega
theorem find_room {A : Nat → Kd} {L : List Rb} (m : Match A L) (x : Nat) (h : roomN A x ≠ 0) : 0 ≤ findI L (x : Int) 0 := by
  obtain ⟨b, hb, e⟩ := m.all x h
  exact findI_some L 0 b hb (by rw [e])
theorem find_noroom {A : Nat → Kd} {L : List Rb} (m : Match A L) (x : Nat) (h : roomN A x = 0) : findI L (x : Int) 0 = -1 := by
  refine findI_none L 0 fun b hb e => ?_
  obtain ⟨h1, h2⟩ := m.room b hb
  have : b.at_ = x := by omega
  rw [this, h] at h1
  exact h2 h1.symm
theorem room_bit {A : Nat → Kd} {s c u j : Nat} (e : A s = .cls c u) (hj : j * 2 ^ (c + 1) < 64) : roomN A (64 * s + j * 2 ^ (c + 1)) = if u.testBit j then 2 ^ (c + 1) else 0 := by
  have hp : 0 < 2 ^ (c + 1) := Nat.pow_pos (by decide)
  unfold roomN
  rw [show (64 * s + j * 2 ^ (c + 1)) / 64 = s by omega, show (64 * s + j * 2 ^ (c + 1)) % 64 = j * 2 ^ (c + 1) by omega, e]
  simp only [roomK]
  rw [Nat.mul_mod_left, Nat.mul_div_cancel _ hp]
  simp
theorem low_eq {u j : Nat} (hu : u < 4294967295) (h1 : ∀ i, i < j → u.testBit i = true) (h2 : u.testBit j = false) : lowP u = j := by
  obtain ⟨a, b, _⟩ := lowP_spec hu
  rcases Nat.lt_trichotomy (lowP u) j with h | h | h
  · rw [h1 _ h] at a; cases a
  · exact h
  · rw [b j h] at h2; cases h2
theorem full_eq {c u : Nat} (hc : c < 6) (hu : u ≤ fullC c) (h : ∀ i, i < 2 ^ (5 - c) → u.testBit i = true) : u = fullC c := by
  apply Classical.byContradiction
  intro hn
  obtain ⟨a, b⟩ := lowP_lt hc hu hn
  have := (lowP_spec a).1
  rw [h _ b] at this; cases this
theorem cK_cls {A : Nat → Kd} {s c : Nat} (e : cK (A s) = ((2 ^ (c + 1) : Nat) : Int)) : ∃ u, A s = .cls c u := by
  have hp : 0 < 2 ^ (c + 1) := Nat.pow_pos (by decide)
  cases ek : A s with
  | free => rw [ek] at e; simp only [cK] at e; omega
  | tail => rw [ek] at e; simp only [cK] at e; omega
  | head k => rw [ek] at e; simp only [cK] at e; omega
  | cls d u =>
    rw [ek] at e; simp only [cK] at e
    have h2 : 2 ^ (d + 1) = 2 ^ (c + 1) := by omega
    have := (Nat.pow_right_inj (by decide)).1 h2
    exact ⟨u, by congr 1; omega⟩
theorem opK_cK {A : Nat → Kd} {s c : Nat} (e : cK (A s) ≠ ((2 ^ (c + 1) : Nat) : Int)) : opK c (A s) = false := by
  cases ek : A s with
  | cls d u =>
    rw [ek] at e
    by_cases h : d = c
    · subst h; exact absurd rfl e
    · simp [opK, h]
  | _ => rfl
theorem opK_full {A : Nat → Kd} {s c : Nat} (e : A s = .cls c (fullC c)) : opK c (A s) = false := by rw [e]; simp [opK]
set_option maxRecDepth 100000 in
set_option maxHeartbeats 4000000 in
theorem Alloc_ref (pb base N : Nat) (z : Int) (L : List Rb) (lv : Value) (A : Nat → Kd) (w : World) (h : RefAt w pb base N L lv) (hb : base ≤ w.heap.size) (hI : Inv N A) (hM : Match A L) (hN1 : 1 ≤ N) (hN : N ≤ 128) (hf : L.length ≤ 5000) :
    Calls Tryd.prog 38 #[.pointer (some ⟨pb, 0, none⟩), .int .i64 z] w fun e w' => (1 ≤ z ∧ z ≤ 16448 ∧ RAllocP w pb base N z.toNat A L e w') ∨ (¬ (1 ≤ z ∧ z ≤ 16448) ∧ e = .returned (.tuple #[.int .i64 0, .bool false]) ∧ Fr (fun _ => False) w w') := by
  by_cases hz : 1 ≤ z ∧ z ≤ 16448
  · obtain ⟨hz1, hz2⟩ := hz
    obtain ⟨m, rfl⟩ : ∃ m : Nat, z = m := ⟨z.toNat, by omega⟩
    by_cases hm : 64 < m
    · have HR := hide (row_ref pb base N m ((m + 63) / 64) L lv A w h hb hI hM hN1 hN hf hm (by omega) rfl)
      rw [show (((m + 63) / 64 : Nat) : Int) = ((m : Int) + 63) / 64 by omega] at HR
      clear h hI hM
      go_enter Tryd.func38, Tryd.ntmps38
      go_wp2_with fail
      refine (unhide HR).mono ?_
      rintro e w1 (⟨a, A', hg, rfl, hA⟩ | ⟨hn, rfl, hF⟩)
      · have HA := hide hA
        have HG := hide hg
        clear hA hg HR
        go_wp2
        go_ret2
        exact .inl ⟨hz1, hz2, .inl ⟨a, A', unhide HG, rfl, unhide HA⟩⟩
      · have HA := hide hn
        have HG := hide hF
        clear hn hF HR
        go_wp2
        go_ret2
        exact .inl ⟨hz1, hz2, .inr ⟨unhide HA, rfl, unhide HG⟩⟩
    · have H := hide h
      have HI := hide hI
      have HM := hide hM
      have h0 : A 0 = .tail := hI.zero
      have H0 := hide h0
      clear h hI hM h0
      go_enter Tryd.func38, Tryd.ntmps38
      go_wp2
      have HP : Hid (∀ e w', RAllocP w pb base N m A L e w' → (1 ≤ (m : Int) ∧ (m : Int) ≤ 16448 ∧ RAllocP w pb base N (m : Int).toNat A L e w') ∨ (¬ (1 ≤ (m : Int) ∧ (m : Int) ≤ 16448) ∧ e = .returned (.tuple #[.int .i64 0, .bool false]) ∧ Fr (fun _ => False) w w')) := hide fun e w' hp => .inl ⟨hz1, hz2, hp⟩
      have HM64 : Hid (m ≤ 64) := hide (by omega)
      clear hz1 hz2 hm
      go_loop [6] (fun t => ∃ r c : Nat, t = .int .i64 r ∧ r ≤ 64 ∧ 2 ≤ r ∧ c ≤ clOf m ∧ Hid (r = 2 ^ (c + 1))) (fun t => 64 - (intOf t).toNat)
      case atStart => exact ⟨2, 0, rfl, by omega, by omega, Nat.zero_le _, hide rfl⟩
      case round =>
        obtain ⟨r, c, rfl, hr1, hr2, hc, hrc⟩ := hrel
        have hc6 : c < 6 := by have := clOf_lt m; omega
        have hcl := clOf_iff m c (unhide HM64) hc6
        rw [← unhide hrc] at hcl
        by_cases hlt : r < m
        · have hc2 := hcl.1 hlt
          have HR2 : Hid (2 * r = 2 ^ (c + 1 + 1)) := hide (by rw [unhide hrc, Nat.pow_succ 2 (c + 1)]; omega)
          have h64 : 2 * r ≤ 64 := by rw [unhide HR2]; exact room_le (by have := clOf_lt m; omega)
          clear hcl
          go_wp2
          go_round
          case rel => exact ⟨2 * r, c + 1, by go_num, by omega, by omega, by omega, HR2⟩
          case measure => simp [intOf]; omega
        · have ec : clOf m = c := by
            have : ¬ c < clOf m := fun x => hlt (hcl.2 x)
            omega
          have HEc := hide ec
          have HQ : Hid (2 ^ (5 - c) * r = 64) := hide (by rw [unhide hrc]; rcases c6 hc6 with rfl | rfl | rfl | rfl | rfl | rfl <;> rfl)
          have HRm : Hid (roomOfM m = r) := hide (by unfold roomOfM; rw [if_pos (unhide HM64), ec, unhide hrc])
          clear hcl ec hc
          go_wp2
          clear hlt
          have HO0 : Hid (∀ t, t < 1 → opK c (A t) = false) := hide fun t ht => by
            obtain rfl : t = 0 := by omega
            rw [unhide H0]; rfl
          go_loopw [4, 5, 7] (fun t4 t5 t7 wr => t4 = .int .i64 0 ∧ t5 = .bool false ∧ ∃ s : Nat, 1 ≤ s ∧ s ≤ N ∧ t7 = .int .i64 s ∧ Hid (∀ t, t < s → opK c (A t) = false) ∧ Hid (Fr (fun _ => False) w wr)) (fun _ _ t7 _ => N - (intOf t7).toNat)
          case atStart => exact ⟨rfl, rfl, 1, by omega, hN1, rfl, HO0, hide (Fr.refl _ _)⟩
          case round =>
            obtain ⟨rfl, rfl, s, hs1, hs2, rfl, hO, hF⟩ := hrel
            have hR := (unhide H).quiet (unhide hF)
            have cN := hR.cN
            by_cases hlt : s < N
            · have HC := hide (Class_any pb base N L lv A s wr hR (unhide HI) (unhide HM) hs1 hlt (by omega))
              clear hR
              by_cases hcl : cK (A s) = (r : Int)
              · obtain ⟨u, hu⟩ := cK_cls (c := c) (by rw [hcl, unhide hrc])
                have HU := hide hu
                rw [hcl] at HC
                clear hcl hu
                go_wp2_with fail
                refine (unhide HC).mono ?_
                rintro e w1 ⟨rfl, hF1⟩
                have HF2 := hide ((unhide hF).trans hF1)
                clear hF1 HC cN
                go_wp2
                go_loop [4, 5, 8] (fun t4 t5 t8 => t4 = .int .i64 0 ∧ t5 = .bool false ∧ ∃ j x : Nat, x ≤ 64 ∧ t8 = .int .i64 (64 * (s : Int) + (x : Int)) ∧ Hid (x = j * r) ∧ Hid (∀ i, i < j → u.testBit i = true)) (fun _ _ t8 => 64 * s + 64 - (intOf t8).toNat)
                case atStart => exact ⟨rfl, rfl, 0, 0, by omega, by simp, hide (by simp), hide (fun i hi => by omega)⟩
                case round =>
                  obtain ⟨rfl, rfl, j, x, hx, rfl, hxj, hbi⟩ := hrel
                  by_cases hx64 : x < 64
                  · have hR1 := (unhide H).quiet (unhide HF2)
                    have HFi := hide (Find_any pb base N L lv (64 * (s : Int) + (x : Int)) w1 hR1)
                    have hrb := room_bit (unhide HU) (j := j) (by rw [← unhide hrc, ← unhide hxj]; exact hx64)
                    rw [← unhide hrc, ← unhide hxj] at hrb
                    cases htb : u.testBit j with
                    | true =>
                      rw [htb, if_pos rfl] at hrb
                      have hfi := find_room (unhide HM) (64 * s + x) (by rw [hrb]; omega)
                      rw [show ((64 * s + x : Nat) : Int) = 64 * (s : Int) + (x : Int) by omega] at hfi
                      have hx2 : x + r ≤ 64 := by
                        have hj : j < 2 ^ (5 - c) := by
                          apply Nat.lt_of_not_le
                          intro hle
                          have := Nat.mul_le_mul_right r hle
                          rw [unhide HQ, ← unhide hxj] at this
                          omega
                        have := Nat.mul_le_mul_right r (show j + 1 ≤ 2 ^ (5 - c) from hj)
                        rw [unhide HQ, Nat.add_mul, ← unhide hxj] at this
                        omega
                      have HX : Hid (x + r = (j + 1) * r) := hide (by rw [Nat.add_mul, ← unhide hxj]; omega)
                      have HBi : Hid (∀ i, i < j + 1 → u.testBit i = true) := hide fun i hi => by
                        by_cases e : i = j
                        · rw [e]; exact htb
                        · exact unhide hbi i (by omega)
                      clear hrb htb hR1 hxj hbi
                      generalize findI L (64 * (s : Int) + (x : Int)) 0 = f at *
                      go_wp2_with fail
                      refine (unhide HFi).mono ?_
                      rintro e w2 ⟨rfl, rfl⟩
                      clear HFi
                      go_wp2
                      go_round
                      case rel => exact ⟨rfl, rfl, j + 1, x + r, by omega, by go_num, HX, HBi⟩
                      case measure => simp [intOf]; omega
                    | false =>
                      rw [htb] at hrb
                      have hfi := find_noroom (unhide HM) (64 * s + x) (by rw [hrb]; rfl)
                      rw [show ((64 * s + x : Nat) : Int) = 64 * (s : Int) + (x : Int) by omega] at hfi
                      rw [hfi] at HFi
                      obtain ⟨_, hu0, hu1⟩ := (unhide HI).cls s c u (unhide HU)
                      have hnf : u ≠ fullC c := fun e => by
                        have hj : j < 2 ^ (5 - c) := by
                          apply Nat.lt_of_not_le
                          intro hle
                          have := Nat.mul_le_mul_right r hle
                          rw [unhide HQ, ← unhide hxj] at this
                          omega
                        rw [e] at htb
                        unfold fullC at htb
                        rw [Nat.testBit_two_pow_sub_one] at htb
                        simp [hj] at htb
                      have hlo := low_eq (lowP_lt hc6 hu1 hnf).1 (unhide hbi) htb
                      have HGo : Hid (∃ A', Goes N A m (64 * s + x) A') := hide (by
                        have := Goes.op (n := N) (A := A) (m := m) s u (unhide HM64) hlt (by rw [unhide HEc]; exact unhide HU) (by rw [unhide HEc]; exact hnf) (by rw [unhide HEc]; exact unhide hO)
                        rw [unhide HEc, hlo, ← unhide hrc, ← unhide hxj, Nat.mul_comm] at this
                        exact ⟨_, this⟩)
                      have hsz := (unhide HF2).size
                      have HA := hide (add_ref pb base N (64 * s + x) r L lv w1 hR1 (by omega) (by omega) hf)
                      rw [show ((64 * s + x : Nat) : Int) = 64 * (s : Int) + (x : Int) by omega] at HA
                      clear hrb htb hR1 hxj hbi hfi hu0 hu1 hnf hlo
                      go_wp2_with fail
                      refine (unhide HFi).mono ?_
                      rintro e w2 ⟨rfl, rfl⟩
                      clear HFi
                      go_wp2_with fail
                      refine (unhide HA).mono ?_
                      intro e w3 hP
                      have he := hP.1
                      subst he
                      have HP3 := hide hP
                      clear hP HA
                      go_wp2
                      go_ret2
                      obtain ⟨A', hgo⟩ := unhide HGo
                      exact unhide HP _ _ (.inl ⟨_, A', hgo, rfl, by rw [unhide HRm]; exact (unhide HP3).pre (unhide HF2)⟩)
                  · have HFu : Hid (opK c (A s) = false) := hide (by
                      obtain ⟨_, hu0, hu1⟩ := (unhide HI).cls s c u (unhide HU)
                      have hjq : 2 ^ (5 - c) ≤ j := by
                        apply Nat.le_of_not_lt
                        intro hle
                        have := Nat.mul_le_mul_right r (show j + 1 ≤ 2 ^ (5 - c) from hle)
                        rw [unhide HQ, Nat.add_mul, ← unhide hxj] at this
                        omega
                      have := full_eq hc6 hu1 fun i hi => unhide hbi i (by omega)
                      exact opK_full (by rw [unhide HU, ← this]))
                    have HO2 : Hid (∀ t, t < s + 1 → opK c (A t) = false) := hide fun t ht => by
                      by_cases e : t = s
                      · rw [e]; exact unhide HFu
                      · exact unhide hO t (by omega)
                    clear hxj hbi
                    go_wp2
                    go_roundw
                    case rel => exact ⟨rfl, rfl, s + 1, by omega, by omega, by go_num, HO2, HF2⟩
                    case measure => simp [intOf]; omega
              · have HO := hide (opK_cK (c := c) (A := A) (s := s) (by rw [← unhide hrc]; exact hcl))
                generalize cK (A s) = zc at *
                go_wp2_with fail
                refine (unhide HC).mono ?_
                rintro e w1 ⟨rfl, hF1⟩
                have HF2 := hide ((unhide hF).trans hF1)
                clear hF1 HC
                go_wp2
                go_roundw
                case rel => exact ⟨rfl, rfl, s + 1, by omega, by omega, by go_num, hide (fun t ht => by
                  by_cases e : t = s
                  · rw [e]; exact unhide HO
                  · exact unhide hO t (by omega)), HF2⟩
                case measure => simp [intOf]; omega
            · have es : s = N := by omega
              subst es
              have HOa : Hid (∀ t, opK c (A t) = false) := hide fun t => by
                by_cases e : t < s
                · exact unhide hO t e
                · exact opK_past (unhide HI) c (by omega)
              have HN0 : Hid (∀ t, t < 1 → A t ≠ .free) := hide fun t ht e => by
                obtain rfl : t = 0 := by omega
                rw [unhide H0] at e; cases e
              clear hR hO
              go_wp2
              go_loopw [4, 5, 9] (fun t4 t5 t9 wr => t4 = .int .i64 0 ∧ t5 = .bool false ∧ ∃ s2 : Nat, 1 ≤ s2 ∧ s2 ≤ s ∧ t9 = .int .i64 s2 ∧ Hid (∀ t, t < s2 → A t ≠ .free) ∧ Hid (Fr (fun _ => False) w wr)) (fun _ _ t9 _ => s - (intOf t9).toNat)
              case atStart => exact ⟨rfl, rfl, 1, by omega, by omega, rfl, HN0, hF⟩
              case round =>
                obtain ⟨rfl, rfl, s2, ht1, ht2, rfl, hO, hF2⟩ := hrel
                have hR := (unhide H).quiet (unhide hF2)
                have cN2 := hR.cN
                by_cases hlt2 : s2 < s
                · have HC := hide (Class_any pb base s L lv A s2 _ hR (unhide HI) (unhide HM) ht1 hlt2 (by omega))
                  clear hR
                  by_cases hfr : A s2 = .free
                  · rw [(cK_zero s2).2 hfr] at HC
                    have HGo : Hid (∃ A', Goes s A m (s2 * 64) A') := hide ⟨_, Goes.free s2 (unhide HM64) hlt2 hfr (unhide hO) (by rw [unhide HEc]; exact unhide HOa)⟩
                    clear hfr
                    go_wp2_with fail
                    refine (unhide HC).mono ?_
                    rintro e w1 ⟨rfl, hF1⟩
                    have hF3 := (unhide hF2).trans hF1
                    have hsz := hF3.size
                    have HA := hide (add_ref pb base s (s2 * 64) r L lv w1 ((unhide H).quiet hF3) (by omega) (by omega) hf)
                    rw [show ((s2 * 64 : Nat) : Int) = 64 * (s2 : Int) by omega] at HA
                    have HF3 := hide hF3
                    clear hF1 hF3 HC
                    go_wp2_with fail
                    refine (unhide HA).mono ?_
                    intro e w3 hP
                    have he := hP.1
                    subst he
                    have HP3 := hide hP
                    clear hP HA
                    go_wp2
                    go_ret2
                    obtain ⟨A', hgo⟩ := unhide HGo
                    exact unhide HP _ _ (.inl ⟨_, A', hgo, rfl, by rw [unhide HRm]; exact (unhide HP3).pre (unhide HF3)⟩)
                  · have hne : cK (A s2) ≠ 0 := fun e => hfr ((cK_zero s2).1 e)
                    have HO2 : Hid (∀ t, t < s2 + 1 → A t ≠ .free) := hide fun t ht => by
                      by_cases e : t = s2
                      · rw [e]; exact hfr
                      · exact unhide hO t (by omega)
                    clear hfr
                    generalize cK (A s2) = zc at *
                    go_wp2_with fail
                    refine (unhide HC).mono ?_
                    rintro e w1 ⟨rfl, hF1⟩
                    have HF3 := hide ((unhide hF2).trans hF1)
                    clear hF1 HC
                    go_wp2
                    go_roundw
                    case rel => exact ⟨rfl, rfl, s2 + 1, by omega, by omega, by go_num, HO2, HF3⟩
                    case measure => simp [intOf]; omega
                · have es : s2 = s := by omega
                  subst es
                  have HNo : Hid (NoPlace s2 A m) := hide (.inl ⟨unhide HM64, by rw [unhide HEc]; exact unhide HOa, fun t e => unhide hO t (free_pos (unhide HI) e).2 e⟩)
                  clear hR
                  go_wp2
                  go_ret2
                  exact unhide HP _ _ (.inr ⟨unhide HNo, rfl, unhide hF2⟩)
  · have hd : z < 1 ∨ (1 ≤ z ∧ 16448 < z) := by omega
    have HZ := hide hz
    clear h hI hM hz
    rcases hd with hd | ⟨hd1, hd⟩
    · go_enter Tryd.func38, Tryd.ntmps38
      go_wp2
      go_ret2
      exact .inr ⟨unhide HZ, rfl, Fr.refl _ _⟩
    · go_enter Tryd.func38, Tryd.ntmps38
      go_wp2
      go_ret2
      exact .inr ⟨unhide HZ, rfl, Fr.refl _ _⟩
end Go.Proofs.YtjblmincldaklaaDoor
namespace Go.Proofs.YtjblmincldaklaaDoor
open Go.RowKit Go.Proofs.YtjblmincldaklaaDoor.Hp
set_option maxHeartbeats 4000000 in
theorem NewR_any (xw : Nat) (w : World) (h1 : 128 ≤ xw) (h2 : xw ≤ 1048576) : Calls Tryd.prog 9 #[.int .i64 xw] w fun e w' => e = .returned (.tuple #[.pointer (some ⟨w.heap.size, 0, none⟩), .bool true]) ∧ RefAt w' w.heap.size w'.heap.size (xw / 64) [] (.slice none 0 0) ∧ Fr (fun _ => False) w w' := by
  go_enter Tryd.func9, Tryd.ntmps9
  go_wp2
  go_ret2
  refine ⟨rfl, ⟨?_, ?_, ?_, ?_, ?_, ?_⟩, ?_⟩
  · rw [World.cell?_alloc_at _ _ _ _ rfl]; simp
  · rw [World.cell?_alloc_at _ _ _ _ rfl]; rfl
  · simp
  · have := World.ownsRow_nil (w.alloc (.cells #[.int .i64 (↑xw / 64), .slice none 0 0] 59)) (w.alloc (.cells #[.int .i64 (↑xw / 64), .slice none 0 0] 59)).heap.size 79 3
    exact this
  · simp
  · intro b hb; simp at hb
  · exact (Fr.refl _ w).alloc _
end Go.Proofs.YtjblmincldaklaaDoor
namespace Go.Proofs.YtjblmincldaklaaDoor
open Go.RowKit Go.Proofs.YtjblmincldaklaaDoor.Hp
theorem and_split2 (a b c d : Nat) (ha : a < 2) (hc : c < 2) : (a + 2 * b) &&& (c + 2 * d) = (a &&& c) + 2 * (b &&& d) := by
  have e : ∀ x y : Nat, x < 2 → x + 2 * y = y * 2 ^ 1 + x := fun x y _ => by omega
  have hac : a &&& c < 2 ^ 1 := Nat.and_lt_two_pow _ hc
  rw [e a b ha, e c d hc, e _ _ hac]
  apply Nat.eq_of_testBit_eq
  intro i
  rw [Nat.testBit_and, Nat.mul_comm b, Nat.mul_comm d, Nat.mul_comm (b &&& d), Nat.testBit_two_pow_mul_add _ ha, Nat.testBit_two_pow_mul_add _ hc, Nat.testBit_two_pow_mul_add _ hac]
  split
  · rw [Nat.testBit_and]
  · rw [Nat.testBit_and]
def bl : Nat → Nat → List Nat
  | 0, _ => []
  | n + 1, x => (if x % 2 = 1 then [0] else []) ++ (bl n (x / 2)).map (· + 1)
theorem bl_zero : ∀ n, bl n 0 = []
  | 0 => rfl
  | n + 1 => by simp [bl, bl_zero n]
theorem bl_clear : ∀ (n x : Nat), x ≠ 0 → x < 2 ^ n → bl n x = Lib.ctzFrom n x :: bl n (x &&& (x - 1))
  | 0, x, h0, h => by simp at h; omega
  | n + 1, x, h0, h => by
    rcases Nat.mod_two_eq_zero_or_one x with e | e
    · obtain ⟨y, rfl⟩ : ∃ y, x = 2 * y := ⟨x / 2, by omega⟩
      have ih := bl_clear n y (by omega) (by rw [Nat.pow_succ] at h; omega)
      have e2 : (2 * y) &&& (2 * y - 1) = 2 * (y &&& (y - 1)) := by
        have := and_split2 0 y 1 (y - 1) (by decide) (by decide)
        rw [show 0 + 2 * y = 2 * y by omega, show 1 + 2 * (y - 1) = 2 * y - 1 by omega] at this
        rw [this]; simp
      rw [e2]
      unfold bl Lib.ctzFrom
      rw [show 2 * (y &&& (y - 1)) % 2 = 0 by omega, show 2 * (y &&& (y - 1)) / 2 = (y &&& (y - 1)) by omega, show 2 * y % 2 = 0 by omega, show 2 * y / 2 = y by omega, ih]
      simp; omega
    · obtain ⟨y, rfl⟩ : ∃ y, x = 1 + 2 * y := ⟨x / 2, by omega⟩
      have e2 : (1 + 2 * y) &&& (1 + 2 * y - 1) = 2 * y := by
        have := and_split2 1 y 0 y (by decide) (by decide)
        rw [show 0 + 2 * y = 1 + 2 * y - 1 by omega] at this
        rw [this, Nat.and_self]; simp
      rw [e2]
      unfold bl Lib.ctzFrom
      rw [show (1 + 2 * y) % 2 = 1 by omega, show (1 + 2 * y) / 2 = y by omega, show 2 * y % 2 = 0 by omega, show 2 * y / 2 = y by omega]
      simp
theorem bl_mem : ∀ (n x k : Nat), k ∈ bl n x ↔ k < n ∧ x.testBit k = true
  | 0, x, k => by simp [bl]
  | n + 1, x, k => by
    unfold bl
    rw [List.mem_append, List.mem_map]
    cases k with
    | zero =>
      rw [Nat.testBit_zero]
      constructor
      · rintro (h | ⟨a, _, h⟩)
        · split at h
          · rename_i e; exact ⟨by omega, by simp [e]⟩
          · simp at h
        · omega
      · rintro ⟨_, h⟩
        left
        rw [if_pos (by simpa using h)]
        simp
    | succ k =>
      rw [Nat.testBit_succ]
      constructor
      · rintro (h | ⟨a, h1, h⟩)
        · split at h
          · simp at h
          · simp at h
        · obtain rfl : a = k := by omega
          have := (bl_mem n (x / 2) a).1 h1
          exact ⟨by omega, this.2⟩
      · rintro ⟨h1, h2⟩
        exact .inr ⟨k, (bl_mem n (x / 2) k).2 ⟨by omega, h2⟩, rfl⟩
theorem bl_sorted : ∀ (n x : Nat), (bl n x).Pairwise (· < ·)
  | 0, x => List.Pairwise.nil
  | n + 1, x => by
    unfold bl
    rw [List.pairwise_append]
    refine ⟨by split <;> simp, ?_, fun a ha b hb => ?_⟩
    · rw [List.pairwise_map]
      exact (bl_sorted n (x / 2)).imp fun h => by omega
    · obtain ⟨c, _, rfl⟩ := List.mem_map.1 hb
      split at ha
      · simp at ha; omega
      · simp at ha
def spanU (s r u : Nat) : List Nat := (bl 32 u).map fun k => s * 64 + k * r
def blkL (A : Nat → Kd) : Nat → List Nat
  | 0 => []
  | s + 1 => blkL A s ++ spanU s (rmK (A s)) (usK (A s))
theorem span_mem {N : Nat} {A : Nat → Kd} (h : Inv N A) (s x : Nat) : x ∈ spanU s (rmK (A s)) (usK (A s)) ↔ x / 64 = s ∧ roomN A x ≠ 0 := by
  unfold spanU
  rw [List.mem_map]
  unfold roomN
  cases ek : A s with
  | free => simp [usK, bl_zero]; intro e; rw [e, ek]; rfl
  | tail => simp [usK, bl_zero]; intro e; rw [e, ek]; rfl
  | head k =>
    have hk := (h.head s k ek).1
    have e1 : bl 32 1 = [0] := by decide
    simp only [usK, rmK, e1, List.mem_singleton]
    constructor
    · rintro ⟨a, rfl, rfl⟩
      rw [show (s * 64 + 0 * (64 * k)) / 64 = s by omega, show (s * 64 + 0 * (64 * k)) % 64 = 0 by omega, ek]
      exact ⟨rfl, by simp [roomK]; omega⟩
    · rintro ⟨e, h2⟩
      rw [e, ek] at h2
      simp only [roomK] at h2
      by_cases e0 : x % 64 = 0
      · exact ⟨0, rfl, by omega⟩
      · rw [if_neg e0] at h2; exact absurd rfl h2
  | cls c u =>
    obtain ⟨hc, hu, hu2⟩ := h.cls s c u ek
    have hp : 2 ≤ 2 ^ (c + 1) := by rw [Nat.pow_succ]; have : 0 < 2 ^ c := Nat.pow_pos (by decide); omega
    simp only [usK, rmK]
    constructor
    · rintro ⟨j, hj, rfl⟩
      obtain ⟨h1, h2⟩ := (bl_mem 32 u j).1 hj
      have hjq : j < 2 ^ (5 - c) := by
        apply Nat.lt_of_not_le
        intro hle
        have h0 : 0 < 2 ^ 2 ^ (5 - c) := Nat.pow_pos (by decide)
        have : u < 2 ^ j := Nat.lt_of_lt_of_le (show u < 2 ^ 2 ^ (5 - c) by unfold fullC at hu2; omega) (Nat.pow_le_pow_right (by decide) hle)
        rw [Nat.testBit_lt_two_pow this] at h2; cases h2
      have ho : j * 2 ^ (c + 1) < 64 := by
        rcases c6 hc with rfl | rfl | rfl | rfl | rfl | rfl <;> simp at hjq ⊢ <;> omega
      have hr := room_bit ek (j := j) ho
      rw [h2, if_pos rfl, Nat.mul_comm 64 s] at hr
      refine ⟨by omega, ?_⟩
      show roomN A _ ≠ 0
      rw [hr]; omega
    · rintro ⟨e, h2⟩
      rw [e, ek] at h2
      obtain ⟨g1, g2, g3, g4⟩ := cls_off hc (show x % 64 < 64 by omega) h2
      refine ⟨x % 64 / 2 ^ (c + 1), (bl_mem 32 u _).2 ⟨?_, g2⟩, ?_⟩
      · rw [Nat.div_lt_iff_lt_mul (by omega)]
        have := Nat.mul_le_mul_left 32 hp
        omega
      · rw [Nat.div_mul_cancel (Nat.dvd_of_mod_eq_zero g1)]; omega
theorem blkL_mem {N : Nat} {A : Nat → Kd} (h : Inv N A) (x : Nat) : ∀ n, x ∈ blkL A n ↔ x < 64 * n ∧ roomN A x ≠ 0
  | 0 => by simp [blkL]
  | n + 1 => by
    unfold blkL
    rw [List.mem_append, blkL_mem h x n, span_mem h n x]
    constructor
    · rintro (⟨a, b⟩ | ⟨a, b⟩)
      · exact ⟨by omega, b⟩
      · exact ⟨by omega, b⟩
    · rintro ⟨a, b⟩
      by_cases e : x < 64 * n
      · exact .inl ⟨e, b⟩
      · exact .inr ⟨by omega, b⟩
theorem blkL_sorted {N : Nat} {A : Nat → Kd} (h : Inv N A) : ∀ n, (blkL A n).Pairwise (· < ·)
  | 0 => List.Pairwise.nil
  | n + 1 => by
    unfold blkL
    rw [List.pairwise_append]
    refine ⟨blkL_sorted h n, ?_, fun a ha b hb => ?_⟩
    · unfold spanU
      rw [List.pairwise_map]
      by_cases e : rmK (A n) = 0
      · have : usK (A n) = 0 := by
          cases ek : A n with
          | free => rfl
          | tail => rfl
          | head k => rw [ek] at e; simp only [rmK] at e; have := (h.head n k ek).1; omega
          | cls c u => rw [ek] at e; simp only [rmK] at e; have : 0 < 2 ^ (c + 1) := Nat.pow_pos (by decide); omega
        rw [this, bl_zero]; exact List.Pairwise.nil
      · exact (bl_sorted 32 (usK (A n))).imp fun {a b} hab => by
          have := (Nat.mul_lt_mul_right (Nat.pos_of_ne_zero e)).2 hab
          omega
    · have h1 := ((blkL_mem h a n).1 ha).1
      have h2 := ((span_mem h n b).1 hb).1
      omega
theorem sorted_eq : ∀ (L M : List Nat), L.Pairwise (· < ·) → M.Pairwise (· < ·) → (∀ x, x ∈ L ↔ x ∈ M) → L = M
  | [], [], _, _, _ => rfl
  | [], b :: M, _, _, h => absurd ((h b).2 (by simp)) (by simp)
  | a :: L, [], _, _, h => absurd ((h a).1 (by simp)) (by simp)
  | a :: L, b :: M, h1, h2, h => by
    rw [List.pairwise_cons] at h1 h2
    have e : a = b := by
      rcases List.mem_cons.1 ((h a).1 (by simp)) with e | e
      · exact e
      · rcases List.mem_cons.1 ((h b).2 (by simp)) with e2 | e2
        · exact e2.symm
        · have := h1.1 b e2; have := h2.1 a e; omega
    subst e
    rw [sorted_eq L M h1.2 h2.2 fun x => ?_]
    constructor
    · intro hx
      rcases List.mem_cons.1 ((h x).1 (by simp [hx])) with e | e
      · have := h1.1 x hx; omega
      · exact e
    · intro hx
      rcases List.mem_cons.1 ((h x).2 (by simp [hx])) with e | e
      · have := h2.1 x hx; omega
      · exact e
theorem Match.ats {N : Nat} {A : Nat → Kd} {L : List Rb} (hI : Inv N A) (m : Match A L) : L.map Rb.at_ = blkL A N := by
  refine sorted_eq _ _ ?_ (blkL_sorted hI N) fun x => ?_
  · rw [List.pairwise_map]; exact m.sorted
  · rw [blkL_mem hI, List.mem_map]
    constructor
    · rintro ⟨b, hb, rfl⟩
      obtain ⟨h1, h2⟩ := m.room b hb
      have hx : roomN A b.at_ ≠ 0 := by rw [h1]; exact h2
      have := room_in hI hx
      exact ⟨by omega, hx⟩
    · rintro ⟨_, h⟩
      obtain ⟨b, hb, e⟩ := m.all x h
      exact ⟨b, hb, e⟩
end Go.Proofs.YtjblmincldaklaaDoor
namespace Go.Proofs.YtjblmincldaklaaDoor
open Go.RowKit Go.Proofs.YtjblmincldaklaaDoor.Hp
theorem and_pred (u : Nat) (hu : u < 4294967296) (h0 : u ≠ 0) : bits .and .u32 (u : Int) ((u : Int) - 1) = ((u &&& (u - 1) : Nat) : Int) := by
  rw [show (u : Int) - 1 = ((u - 1 : Nat) : Int) by omega, u32_and_nat _ _ hu (by omega)]
def nv (x : Nat) : Value := .int .i64 (x : Int)
def BlkP (w0 : World) (ys : List Nat) (e : Ending) (w' : World) : Prop := ∃ ao cp, e = .returned (.slice ao ys.length cp) ∧ w'.ownsRow w0.heap.size 3 1 (.slice ao ys.length cp) ys.length (ys.map nv) ∧ Fr (fun _ => False) w0 w'
theorem blkL_pre (A : Nat → Kd) (s : Nat) : ∀ d, (blkL A s).length ≤ (blkL A (s + d)).length
  | 0 => Nat.le_refl _
  | d + 1 => by
    have := blkL_pre A s d
    rw [show s + (d + 1) = (s + d) + 1 by omega, blkL, List.length_append]; omega
theorem spanU_step (s r u : Nat) (h0 : u ≠ 0) (h : u < 4294967296) : spanU s r u = (s * 64 + Lib.ctz 32 u * r) :: spanU s r (u &&& (u - 1)) := by
  unfold spanU
  rw [bl_clear 32 u h0 h, List.map_cons, Lib.ctz, if_neg h0]
set_option maxRecDepth 100000 in
set_option maxHeartbeats 4000000 in
theorem Blocks_full (B : HB) (n : Nat) (A : Nat → Kd) (wd : Nat → Int) (w : World) (h : At w B n (hrOf A wd)) (hI : Inv n A) (hV : Vars w) (hc : (blkL A n).length ≤ 100000) : Calls Tryd.prog 33 #[B.ptr] w fun e w' => BlkP w (blkL A n) e w' := by
  have c1 := h.c1
  have hh := h.hi
  have hcs : Hid (∀ s, s < n → w.cell? ⟨B.bs, s * 2, none⟩ = some (.int .i64 (rmK (A s))) ∧ w.cell? ⟨B.bs, s * 2 + 1, none⟩ = some (.int .u32 (usK (A s))) ∧ usK (A s) < 4294967296 ∧ rmK (A s) ≤ 20000 ∧ blkL A (s + 1) = blkL A s ++ spanU s (rmK (A s)) (usK (A s)) ∧ (blkL A (s + 1)).length ≤ 100000) := hide fun s hs => by
    have f := fine_of wd hI s hs
    refine ⟨h.cr s hs, h.cu s hs, f.2.2, f.2.1, rfl, ?_⟩
    have := blkL_pre A (s + 1) (n - (s + 1))
    rw [show s + 1 + (n - (s + 1)) = n by omega] at this
    omega
  have HL : Hid (B.bs < w.heap.size) := hide h.lts.2.2.1
  have HV := hide hV
  obtain ⟨base, hb⟩ : ∃ base, base = w.heap.size := ⟨_, rfl⟩
  have HBs : Hid (base = w.heap.size) := hide hb
  have HP : Hid (∀ ao c cp w', c = (blkL A n).length → w'.ownsRow base 3 1 (.slice ao c cp) c ((blkL A n).map nv) → Fr (fun _ => False) w w' → BlkP w (blkL A n) (.returned (.slice ao c cp)) w') := hide fun ao c cp w' e o q => by subst e; exact ⟨ao, cp, rfl, by rw [← hb]; exact o, q⟩
  clear h hI hV hb
  obtain ⟨i0, hi, hz0, hz1, hz2⟩ := info_parts Tryd.info3
  unfold HB.ptr
  go_enter Tryd.func33, Tryd.ntmps33
  go_wp2
  go_loopw [3, 12] (fun v i wr => ∃ s : Nat, s ≤ n ∧ i = .int .i64 s ∧ ∃ c ao cp, v = .slice ao c cp ∧ c ≤ 100000 ∧ Hid (c = (blkL A s).length) ∧ Hid (wr.ownsRow base 3 1 (.slice ao c cp) c ((blkL A s).map nv)) ∧ Hid (Fr (fun _ => False) w wr)) (fun _ i _ => n - (intOf i).toNat)
  case atStart => exact ⟨0, by omega, rfl, 0, none, 0, rfl, by omega, hide rfl, hide (by have := World.ownsRow_nil w base 3 1; exact this), hide (Fr.refl _ _)⟩
  case round =>
    obtain ⟨s, hs, rfl, c0, ao, cp, rfl, hcl, hc0, hO, hF⟩ := hrel
    by_cases hlt : s < n
    · obtain ⟨k1, k2, hu, hrm, hct, hle⟩ := unhide hcs s hlt
      have cr : wr.cell? ⟨B.bs, s * 2, none⟩ = some (.int .i64 (rmK (A s))) := (World.cell?_of_block (w := w) (a := ⟨B.bs, s * 2, none⟩) ((unhide hF).block B.bs (unhide HL) id)).trans k1
      have cu : wr.cell? ⟨B.bs, s * 2 + 1, none⟩ = some (.int .u32 (usK (A s))) := (World.cell?_of_block (w := w) (a := ⟨B.bs, s * 2 + 1, none⟩) ((unhide hF).block B.bs (unhide HL) id)).trans k2
      have HCt := hide hct
      have HLe := hide hle
      have hsb : base ≤ wr.heap.size := by have := (unhide hF).size; have := unhide HBs; omega
      have HO2 : Hid ((wr.alloc (.cells #[.int .i64 (rmK (A s)), .int .u32 (usK (A s))] 90)).ownsRow base 3 1 (.slice ao c0 cp) c0 ((blkL A s).map nv)) := hide ((unhide hO).alloc _)
      have HF2 : Hid (Fr (fun _ => False) w (wr.alloc (.cells #[.int .i64 (rmK (A s)), .int .u32 (usK (A s))] 90))) := hide ((unhide hF).alloc _)
      have hb2 : wr.heap.size < (wr.alloc (.cells #[.int .i64 (rmK (A s)), .int .u32 (usK (A s))] 90)).heap.size := by simp
      have cb0 : (wr.alloc (.cells #[.int .i64 (rmK (A s)), .int .u32 (usK (A s))] 90)).cell? ⟨wr.heap.size, 0, none⟩ = some (.int .i64 (rmK (A s))) := by rw [World.cell?_alloc_at _ _ _ _ rfl]; rfl
      have HNe : Hid ((Value.slice ao c0 cp).ownBlock ≠ some wr.heap.size) := hide fun e => by have := ((unhide hO).lt _ e).2; omega
      clear k1 k2 hct hO hF hle
      generalize usK (A s) = u0 at *
      generalize rmK (A s) = rr at *
      go_wp2
      have HLT := hide hlt
      have HDC := hide (decide_eq_true (show (s : Int) < (n : Int) by omega))
      obtain ⟨pb, hpb⟩ : ∃ pb, pb = wr.heap.size := ⟨_, rfl⟩
      rw [← hpb] at HNe
      rw [← hpb] at cb0 ⊢
      have hpl : pb < (wr.alloc (.cells #[.int .i64 rr, .int .u32 u0] 90)).heap.size := by rw [hpb]; simp
      generalize wr.alloc (.cells #[.int .i64 rr, .int .u32 u0] 90) = w3 at *
      clear hpb hb2 cr cu hsb hlt
      go_loopw [3, 6] (fun v t wr => ∃ u : Nat, u < 4294967296 ∧ t = .int .u32 u ∧ ∃ c ao cp ys, v = .slice ao c cp ∧ c ≤ 100000 ∧ Hid (c = ys.length ∧ ys ++ spanU s rr u = blkL A (s + 1)) ∧ Hid (wr.ownsRow base 3 1 (.slice ao c cp) c (ys.map nv)) ∧ Hid (Fr (fun _ => False) w wr) ∧ Hid ((Value.slice ao c cp).ownBlock ≠ some pb) ∧ wr.cell? ⟨pb, 0, none⟩ = some (.int .i64 rr) ∧ pb < wr.heap.size) (fun _ t _ => (intOf t).toNat)
      case atStart => exact ⟨u0, hu, rfl, _, ao, cp, blkL A s, rfl, hcl, hide ⟨unhide hc0, (unhide HCt).symm⟩, HO2, HF2, HNe, cb0, hpl⟩
      case round =>
        obtain ⟨u, hu1, rfl, c, ao1, cp1, ys, rfl, hcc, hcp, hO, hF, hN, cpb, hpb1⟩ := hrel
        by_cases h0 : u = 0
        · subst h0
          have HE : Hid (ys = blkL A (s + 1)) := hide (by
            have := (unhide hcp).2
            unfold spanU at this
            rw [bl_zero] at this
            simpa using this)
          have HE2 := hide (unhide hcp).1
          clear hcp
          go_wp2
          go_roundw
          case rel => exact ⟨s + 1, by have := unhide HLT; omega, by go_num, c, ao1, cp1, rfl, hcc, hide (by rw [unhide HE2, unhide HE]), by rw [← unhide HE]; exact hO, hF⟩
          case measure => have := unhide HLT; simp [intOf]; omega
        · have h0b : ((u : Int) == 0) = false := by simp; omega
          have h0c : ((u : Int) != 0) = true := by simp; omega
          have hVr := (unhide HV).fr (unhide hF) id id
          have HT := hide (fun w' (q : Fr (fun _ => False) wr w') => tz32_any u hu1 h0 w' (hVr.fr q id id))
          have hk := ctz_lt (n := 32) h0 hu1
          have hst := spanU_step s rr u h0 hu1
          generalize Lib.ctz 32 u = kz at *
          have hkr : kz * rr ≤ 640000 := Nat.mul_le_mul (show kz ≤ 32 by omega) hrm
          have hle1 := Nat.and_le_right (n := u) (m := u - 1)
          obtain ⟨u', hu'⟩ : ∃ u', u' = u &&& (u - 1) := ⟨_, rfl⟩
          rw [← hu'] at hst hle1
          have ha1 : bits .and .u32 (u : Int) ((u : Int) - 1) = (u' : Int) := by rw [hu']; exact and_pred u hu1 h0
          have ha2 : bits .and .u32 (u : Int) (((u : Int) - 1) % 4294967296) = (u' : Int) := by rw [show ((u : Int) - 1) % 4294967296 = (u : Int) - 1 by omega]; exact ha1
          have hbw : base ≤ wr.heap.size := by have := (unhide hF).size; have := unhide HBs; omega
          have hle2 := unhide HLe
          rw [← (unhide hcp).2, hst, List.length_append, List.length_cons, ← (unhide hcp).1] at hle2
          have hc9 : c + 1 ≤ 100000 := by omega
          have HCP : Hid (c + 1 = (ys ++ [s * 64 + kz * rr]).length ∧ (ys ++ [s * 64 + kz * rr]) ++ spanU s rr u' = blkL A (s + 1)) := hide ⟨by rw [List.length_append, (unhide hcp).1]; rfl, by rw [← (unhide hcp).2, hst]; simp⟩
          have HXS : Hid (ys.map nv ++ [.int .i64 ((s : Int) * 64 + (kz : Int) * (rr : Int))] = (ys ++ [s * 64 + kz * rr]).map nv) := hide (by simp [nv])
          have hw1 : IntKind.i64.wrap ((s : Int) * 64) = (s : Int) * 64 := by rw [Go.IntKind.wrap_i64]; omega
          have hkri : (kz : Int) * (rr : Int) = ((kz * rr : Nat) : Int) := by simp
          have hw2 : IntKind.i64.wrap ((kz : Int) * (rr : Int)) = (kz : Int) * (rr : Int) := by rw [hkri, Go.IntKind.wrap_i64]; omega
          have hw3 : IntKind.i64.wrap ((s : Int) * 64 + (kz : Int) * (rr : Int)) = (s : Int) * 64 + (kz : Int) * (rr : Int) := by rw [hkri, Go.IntKind.wrap_i64]; omega
          clear hkri
          clear hu' hVr hst hcp hle2
          go_wp2
          go_region_law (first | (refine step_append_lies _ rfl (.tmp 25) (.tmp 34) 31 rfl base 3 i0 (.int .i64 0) 1 8 Tryd.underlying31 hi hz0 hz1 hz2 rfl (by decide) (.slice ao1 c cp1) c (ys.map nv) (by simp [Act.eval]) ((unhide hO).alloc _) ⟨wr.heap.size, 0, none⟩ 1 1 [.int .i64 ((s : Int) * 64 + (kz : Int) * (rr : Int))] (by simp [Act.eval]) rfl (by intro j x hj; match j, hj with | 0, hj => simp at hj; subst hj; simp [Addr.add]) (by intro x hx; simp at hx; subst hx; rfl) (by decide) (by unfold maxLen; omega) (by omega) (by simp; omega) _ rfl ?_; intro g cap w1 hown' hgrow hat hgl) | (go_simp; go_at_call 49; refine (unhide HT _ (by first | exact (Fr.refl _ _).drew | exact Fr.refl _ _)).mono ?_; rintro e w9 ⟨rfl, rfl⟩))
          all_goals
            have hK : Fr (fun j => some j = (Value.slice ao1 c cp1).ownBlock) wr w1 := (((Fr.refl _ wr).drew).alloc _).trans (Fr.grown hgrow)
            have hlo : ∀ j, some j = (Value.slice ao1 c cp1).ownBlock → base ≤ j := fun j e => ((unhide hO).lt j e.symm).1
            have HF1 : Hid (Fr (fun _ => False) w w1) := hide ((unhide hF).up hK (fun j e => by have := hlo j e; have := unhide HBs; omega))
            have cpb1 : w1.cell? ⟨pb, 0, none⟩ = some (.int .i64 rr) := (World.cell?_of_block (w := wr) (a := ⟨pb, 0, none⟩) (hK.block pb hpb1 (fun e => unhide hN e.symm))).trans cpb
            have hpb2 : pb < w1.heap.size := Nat.lt_of_lt_of_le hpb1 hK.size
            have HN1 : Hid ((Value.slice (some ⟨g, 0, none⟩) (c + 1) cap).ownBlock ≠ some pb) := hide fun e => by
              have eg : g = pb := by simpa [Value.ownBlock] using e
              rcases hat with h | h
              · exact unhide hN (by rw [h, eg])
              · simp at h; omega
            rw [unhide HXS] at hown'
            have HO1 := hide hown'
            clear hown' hgrow hat hgl hK hlo
            go_wp2
            go_roundw
            case rel => exact ⟨u', by omega, rfl, c + 1, _, cap, _, rfl, hc9, HCP, HO1, HF1, HN1, cpb1, hpb2⟩
            case measure => simp [intOf]; omega
    · have e : s = n := by omega
      subst e
      go_wp2
      go_ret
      exact unhide HP _ _ _ _ (unhide hc0) (unhide hO) (unhide hF)
end Go.Proofs.YtjblmincldaklaaDoor
