/- The document's heap in memory: Find, Class, Spans. -/
import Derived.Test.YtjblmincldaklaaDoorRf0
namespace Go.Proofs.YtjblmincldaklaaDoor
open Go.RowKit Go.Proofs.YtjblmincldaklaaDoor.Hp
structure RefAt (w : World) (pb base N : Nat) (L : List Rb) (lv : Value) : Prop where
  cN : w.cell? ⟨pb, 0, none⟩ = some (.int .i64 N)
  cL : w.cell? ⟨pb, 1, none⟩ = some lv
  fL : w.frozen? ⟨pb, 1, none⟩ = false
  own : w.ownsRow base 79 3 lv L.length (rbAll L)
  few : L.length ≤ 100000
  ats : ∀ b ∈ L, b.at_ + b.room ≤ 1048576
theorem RefAt.form {w : World} {pb base N : Nat} {L : List Rb} {lv : Value} (h : RefAt w pb base N L lv) : ∃ ao cp, lv = .slice ao L.length cp ∧ (0 < L.length → ∃ g, ao = some ⟨g, 0, none⟩) := own_form h.own
theorem RefAt.cells {w : World} {pb base N g cp : Nat} {L : List Rb} (h : RefAt w pb base N L (.slice (some ⟨g, 0, none⟩) L.length cp)) {i : Nat} {b : Rb} (hb : L[i]? = some b) :
    w.cell? ⟨g, i * 3, none⟩ = some (.int .i64 b.at_) ∧ w.cell? ⟨g, i * 3 + 1, none⟩ = some (.int .i64 b.room) ∧ w.cell? ⟨g, i * 3 + 2, none⟩ = some (.slice (some ⟨b.gw, 0, none⟩) b.room b.room) := by
  have hi : i < L.length := by
    rcases Nat.lt_or_ge i L.length with h1 | h1
    · exact h1
    · rw [List.getElem?_eq_none h1] at hb; cases hb
  refine ⟨?_, ?_, ?_⟩
  · rw [h.own.cellAt (i * 3) (by omega)]
    have := rbAll_get L i 0 b hb (by decide)
    rw [Nat.add_zero] at this
    rw [this]; rfl
  · rw [h.own.cellAt (i * 3 + 1) (by omega), rbAll_get L i 1 b hb (by decide)]; rfl
  · rw [h.own.cellAt (i * 3 + 2) (by omega), rbAll_get L i 2 b hb (by decide)]; rfl
theorem RefAt.fr {w w' : World} {pb base N : Nat} {L : List Rb} {lv : Value} {K : Nat → Prop} (h : RefAt w pb base N L lv) (k : Fr K w w') (hp : ¬ K pb) (hb : ∀ g, lv.ownBlock = some g → ¬ K g) : RefAt w' pb base N L lv := by
  have e := k.block pb (World.block_lt_of_cell? w ⟨pb, 0, none⟩ h.cN) hp
  exact ⟨(World.cell?_of_block (w := w) (a := ⟨pb, 0, none⟩) e).trans h.cN, (World.cell?_of_block (w := w) (a := ⟨pb, 1, none⟩) e).trans h.cL, (World.frozen?_of_block (w := w) (a := ⟨pb, 1, none⟩) e).trans h.fL, own_blk h.own (fun g hg => k.block g (h.own.lt g hg).2 (hb g hg)), h.few, h.ats⟩
theorem RefAt.quiet {w w' : World} {pb base N : Nat} {L : List Rb} {lv : Value} (h : RefAt w pb base N L lv) (k : Fr (fun _ => False) w w') : RefAt w' pb base N L lv := h.fr k id (fun _ _ => id)
/-- The place of a block in the list, or -1. -/
def findI : List Rb → Int → Int → Int
  | [], _, _ => -1
  | b :: L, x, i => if (b.at_ : Int) = x then i else findI L x (i + 1)
set_option maxHeartbeats 1000000 in
theorem Find_any (pb base N : Nat) (L : List Rb) (lv : Value) (x : Int) (w : World) (h : RefAt w pb base N L lv) :
    Calls Tryd.prog 39 #[.pointer (some ⟨pb, 0, none⟩), .int .i64 x] w fun e w' => e = .returned (.int .i64 (findI L x 0)) ∧ w' = w := by
  obtain ⟨ao, cp, rfl, hg⟩ := h.form
  have cL := h.cL
  have hf := h.few
  have H := hide h
  have HG := hide hg
  clear h hg
  go_enter Tryd.func39, Tryd.ntmps39
  go_wp2
  go_loop [5] (fun t => ∃ i : Nat, i ≤ L.length ∧ t = .int .i64 i ∧ Hid (findI L x 0 = findI (L.drop i) x i)) (fun t => L.length - (intOf t).toNat)
  case atStart => exact ⟨0, by omega, rfl, hide (by simp)⟩
  case round =>
    obtain ⟨i, hi, rfl, hE⟩ := hrel
    by_cases hlt : i < L.length
    · obtain ⟨g, hg⟩ := unhide HG (by omega)
      subst hg
      obtain ⟨b, hb⟩ : ∃ b, L[i]? = some b := ⟨L[i], by simp [hlt]⟩
      have cc := ((unhide H).cells hb).1
      have hd : L.drop i = b :: L.drop (i + 1) := by
        rw [List.drop_eq_getElem_cons hlt]
        congr 1
        rw [List.getElem?_eq_getElem hlt] at hb
        exact Option.some.inj hb
      have HE : Hid (findI L x 0 = if (b.at_ : Int) = x then (i : Int) else findI (L.drop (i + 1)) x ((i : Int) + 1)) := hide (by rw [unhide hE, hd]; rfl)
      clear hE hd hb
      by_cases hx : (b.at_ : Int) = x
      · have HX := hide hx
        have hxb : ((b.at_ : Int) == x) = true := by simpa using hx
        clear hx
        go_wp2
        go_ret
        exact ⟨ret_int (by rw [unhide HE, if_pos (unhide HX)]), rfl⟩
      · have HX := hide hx
        have hxb : ((b.at_ : Int) == x) = false := by simpa using hx
        clear hx
        go_wp2
        go_round
        case rel => exact ⟨i + 1, by omega, by go_num, hide (by rw [unhide HE, if_neg (unhide HX)]; simp)⟩
        case measure => simp [intOf]; omega
    · have HE : Hid (findI L x 0 = -1) := hide (by rw [unhide hE, List.drop_eq_nil_of_le (by omega)]; rfl)
      clear hE
      go_wp2
      go_ret
      exact ⟨ret_int (by rw [unhide HE]), rfl⟩
set_option maxHeartbeats 1000000 in
theorem Class_any (pb base N : Nat) (L : List Rb) (lv : Value) (A : Nat → Kd) (s : Nat) (w : World) (h : RefAt w pb base N L lv) (hI : Inv N A) (hM : Match A L) (h1 : 1 ≤ s) (h2 : s < N) (hN : N ≤ 16384) :
    Calls Tryd.prog 42 #[.pointer (some ⟨pb, 0, none⟩), .int .i64 s] w fun e w' => e = .returned (.int .i64 (cK (A s))) ∧ Fr (fun _ => False) w w' := by
  obtain ⟨ao, cp, rfl, hg⟩ := h.form
  have hf := h.few
  have H := hide h
  have HG := hide hg
  have HI := hide hI
  have HM := hide hM
  clear h hg hI hM
  go_enter Tryd.func42, Tryd.ntmps42
  go_wp2
  go_loopw [5] (fun t wr => ∃ i : Nat, i ≤ L.length ∧ t = .int .i64 i ∧ Hid (∀ j b, j < i → L[j]? = some b → ¬ hits b s) ∧ Hid (Fr (fun _ => False) w wr)) (fun t _ => L.length - (intOf t).toNat)
  case atStart => exact ⟨0, by omega, rfl, hide (fun j b hj => by omega), hide (Fr.refl _ _)⟩
  case round =>
    obtain ⟨i, hi, rfl, hE, hF⟩ := hrel
    have hR := (unhide H).quiet (unhide hF)
    have cL := hR.cL
    by_cases hlt : i < L.length
    · obtain ⟨g, hg⟩ := unhide HG (by omega)
      subst hg
      obtain ⟨b, hb⟩ : ∃ b, L[i]? = some b := ⟨L[i], by simp [hlt]⟩
      obtain ⟨c0, c1, c2⟩ := hR.cells hb
      have hat := (unhide H).ats b (List.mem_of_getElem? hb)
      have hmem := List.mem_of_getElem? hb
      have HB := hide hb
      have HMm := hide hmem
      clear hR hb hmem
      by_cases hh : hits b s
      · have HC := hide (class_hit (unhide HI) (unhide HM) (unhide HMm) hh)
        have t1 : (b.at_ : Int) < 64 * (s : Int) + 64 := by have := hh.1; omega
        have t2 : 64 * (s : Int) < (b.at_ : Int) + (b.room : Int) := by have := hh.2; omega
        clear hh
        by_cases hr : 64 < b.room
        · have HR := hide hr
          go_wp2
          go_ret
          exact ⟨ret_int (by rw [unhide HC, if_pos (unhide HR)]), (unhide hF).alloc _⟩
        · have HR := hide hr
          go_wp2
          go_ret
          exact ⟨ret_int (by rw [unhide HC, if_neg (unhide HR)]), (unhide hF).alloc _⟩
      · have HH := hide hh
        have hd : ¬ (b.at_ : Int) < 64 * (s : Int) + 64 ∨ ¬ 64 * (s : Int) < (b.at_ : Int) + (b.room : Int) := by
          unfold hits at hh; omega
        clear hh
        rcases hd with hd | hd
        · go_wp2
          go_roundw
          case rel => exact ⟨i + 1, by omega, by go_num, hide (fun j b' hj hb' => by
            by_cases e : j = i
            · rw [e, unhide HB] at hb'; cases hb'; exact unhide HH
            · exact unhide hE j b' (by omega) hb'), hide ((unhide hF).alloc _)⟩
          case measure => simp [intOf]; omega
        · have hd1 : (b.at_ : Int) < 64 * (s : Int) + 64 := by omega
          go_wp2
          go_roundw
          case rel => exact ⟨i + 1, by omega, by go_num, hide (fun j b' hj hb' => by
            by_cases e : j = i
            · rw [e, unhide HB] at hb'; cases hb'; exact unhide HH
            · exact unhide hE j b' (by omega) hb'), hide ((unhide hF).alloc _)⟩
          case measure => simp [intOf]; omega
    · have HC : Hid (cK (A s) = 0) := hide (by
        rw [class_none (unhide HI) (unhide HM) h1 h2 (fun b hb => by
          obtain ⟨j, hj, e⟩ := List.mem_iff_getElem.1 hb
          exact unhide hE j b (by omega) (by rw [List.getElem?_eq_getElem hj, e]))]
        rfl)
      clear hR hE
      go_wp2
      go_ret
      exact ⟨ret_int (by rw [unhide HC]), unhide hF⟩
theorem cnt_free_zero (A : Nat → Kd) (h : A 0 = .tail) : cntN (fun s => frK (A s)) 1 = 0 := by simp [cntN, h, frK]
end Go.Proofs.YtjblmincldaklaaDoor
