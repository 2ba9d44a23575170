import Derived.Test.YtheknbfbneghgaaGreatDoorState
set_option maxHeartbeats 800000
set_option maxRecDepth 100000
namespace Go.Proofs.YtheknbfbneghgaaGreatDoor
open Go.RowKit Lx
def endL (ts : List Tok) (k : Int) : List Tok :=
 match ts.getLast? with
 | some t => if tokEnds t.kind t.text then ts ++ [⟨5, [59], 1, k⟩] else ts
 | none => ts
theorem own_form {w : World} {base e size n : Nat} {v : Value} {xs : List Value} (h : w.ownsRow base e size v n xs) : ∃ ao cap, v = .slice ao n cap := by
 rcases h.2 with ⟨rfl, rfl⟩ | ⟨g, cap, cur, rfl, _⟩
 ·exact ⟨_, _, rfl⟩
 ·exact ⟨_, _, rfl⟩
theorem St.heap {w w' : World} {b k : Nat} {s : ByteArray} {sv : Value} {ts : List Tok} (h : St w b s k sv ts) (hh : w'.heap = w.heap) : St w' b s k sv ts :=
 ⟨by rw [hh]; exact h.blk, own_heap hh h.own⟩
theorem St.alloc {w : World} {b k : Nat} {s : ByteArray} {sv : Value} {ts : List Tok} (h : St w b s k sv ts) (o : Obj) : St (w.alloc o) b s k sv ts :=
 ⟨blk_alloc h.blk o, h.own.alloc o⟩
theorem last_cells {w : World} {b k : Nat} {s : ByteArray} {sv : Value} {ts : List Tok} {t : Tok} (h : St w b s k sv (ts ++ [t])) : ∃ g cap, sv = .slice (some ⟨g, 0, none⟩) (ts.length + 1) cap ∧
 w.cell? ⟨g, ts.length * 4, none⟩ = some (.int .i64 t.kind) ∧ w.cell? ⟨g, ts.length * 4 + 1, none⟩ = some (.string ⟨t.text.toArray⟩) ∧ w.cell? ⟨g, ts.length * 4 + 2, none⟩ = some (.int .i64 t.num) ∧ w.cell? ⟨g, ts.length * 4 + 3, none⟩ = some (.int .i64 t.pos) := by
 have ho := h.own
 rw [List.length_append] at ho
 obtain ⟨g, cap, rfl, _, _⟩ := ho.form zK
 refine ⟨g, cap, rfl, ?_⟩
 have hc := ho.cells (g := g) rfl
 have hadd : ∀ j, (⟨g, 0, none⟩ : Addr).add j = ⟨g, j, none⟩ := fun j => by unfold Addr.add; split <;> simp_all
 have hx : ∀ j u, (tokCells t)[j]? = some u → w.cell? ⟨g, ts.length * 4 + j, none⟩ = some u := fun j u hu => by
  rw [← hadd]
  refine hc _ _ ?_
  rw [toksCells_snoc, List.getElem?_append_right (by rw [toksCells_len]; omega), toksCells_len, Nat.add_sub_cancel_left]
  exact hu
 exact ⟨hx 0 _ rfl, hx 1 _ rfl, hx 2 _ rfl, hx 3 _ rfl⟩
theorem endLine_nil (b k : Nat) (s : ByteArray) (sv : Value) (w : World) (h : St w b s k sv []) :
 Calls Tryz.prog 28 #[.pointer (some ⟨b, 0, none⟩)] w fun ev w' => ev = .returned (.tuple #[]) ∧ St w' b s k sv [] ∧ Below b w w' := by
 obtain ⟨ao, cap, rfl⟩ := own_form h.own
 have c2 : w.cell? ⟨b, 2, none⟩ = some (.slice ao 0 cap) := zv h.blk 2
 have H := zm h
 clear h
 go_enter Tryz.func28, Tryz.ntmps28
 go_wp2
 go_quiet (fail)
 go_wp2
 go_end0
 exact ⟨rfl, (zk H).heap rfl, below_drewN (Below.refl b w) _⟩
theorem endLine_some (b k : Nat) (s : ByteArray) (sv : Value) (ts : List Tok) (t : Tok) (w : World) (h : St w b s k sv (ts ++ [t])) (hn : ts.length < 100000) :
 Calls Tryz.prog 28 #[.pointer (some ⟨b, 0, none⟩)] w fun ev w' => ev = .returned (.tuple #[]) ∧ ∃ sv', St w' b s k sv' (endL (ts ++ [t]) k) ∧ Below b w w' := by
 obtain ⟨g, cap, rfl, d0, d1, d2, d3⟩ := last_cells h
 have c2 : w.cell? ⟨b, 2, none⟩ = some (.slice (some ⟨g, 0, none⟩) (ts.length + 1) cap) := zv h.blk 2
 have c1 : w.cell? ⟨b, 1, none⟩ = some (.int .i64 k) := zv h.blk 1
 have H := zm h
 clear h
 generalize hm : ts.length = m at *
 have HM := zm hm
 clear hm
 have w1 : IntKind.i64.wrap (m : Int) = m := by rw [IntKind.wrap_i64]; omega
 have w2 : IntKind.i64.wrap ((m : Int) + 1 - 1) = m := by rw [IntKind.wrap_i64]; omega
 have w3 : (0 : Int) ≤ m := om
 have w4 : (m : Int) < (m : Int) + 1 := om
 have HL : Hid (endL (ts ++ [t]) k = if tokEnds t.kind t.text then ts ++ [t] ++ [⟨5, [59], 1, k⟩] else ts ++ [t]) := by simp [Hid, endL]
 have HC : Hid (b < w.heap.size) := blk_lt (zk H).blk
 have hz : (ByteArray.mk #[59]).toList = [59] := ByteArray.toList_mk [59]
 have HZ := zm hz
 clear hz
 by_cases he : tokEnds t.kind t.text = true
 ·rw [if_pos he] at HL
  go_enter Tryz.func28, Tryz.ntmps28
  go_wp2
  go_region_held3 (fun w' => w'.cell? ⟨b, 2, none⟩ = some (.slice (some ⟨g, 0, none⟩) (m + 1) cap) ∧ w'.cell? ⟨g, m * 4, none⟩ = some (.int .i64 t.kind) ∧ w'.cell? ⟨g, m * 4 + 1, none⟩ = some (.string ⟨t.text.toArray⟩) ∧ w'.cell? ⟨g, m * 4 + 2, none⟩ = some (.int .i64 t.num) ∧ w'.cell? ⟨g, m * 4 + 3, none⟩ = some (.int .i64 t.pos)) (go_keep) (first | (go_at_call 52; refine (endsStatement_any _ _ _ _ _).mono ?_; rintro e w' ⟨rfl, rfl⟩))
  go_wp2
  go_region_held3 (fun w' => w'.cell? ⟨b, 1, none⟩ = some (.int .i64 k)) (go_keep) (first | (go_at_call 29; refine (add_any b k k s _ (ts ++ [t]) 5 1 k ⟨#[59]⟩ _ (by exact ((zk H).alloc _).heap rfl) (by have := zk HM; simp; omega)).mono ?_; rintro e w' ⟨rfl, sv', hst, hbl⟩; have q1 := zv hst.blk 1; have HS := zm hst; have HBL := zm hbl; clear hst hbl))
  go_wp2
  go_end0
  refine ⟨rfl, sv', ?_, ?_⟩
  ·rw [zk HL, ← zk HZ]; exact zk HS
  ·exact (((Below.refl b w).alloc (Nat.le_of_lt (zk HC)) _).drew.drew).trans (zk HBL)
 ·have hf : tokEnds t.kind t.text = false := by simpa using he
  rw [if_neg he] at HL
  clear he
  go_enter Tryz.func28, Tryz.ntmps28
  go_wp2
  go_region_held3 (fun w' => w'.cell? ⟨b, 2, none⟩ = some (.slice (some ⟨g, 0, none⟩) (m + 1) cap) ∧ w'.cell? ⟨g, m * 4, none⟩ = some (.int .i64 t.kind) ∧ w'.cell? ⟨g, m * 4 + 1, none⟩ = some (.string ⟨t.text.toArray⟩) ∧ w'.cell? ⟨g, m * 4 + 2, none⟩ = some (.int .i64 t.num) ∧ w'.cell? ⟨g, m * 4 + 3, none⟩ = some (.int .i64 t.pos)) (go_keep) (first | (go_at_call 52; refine (endsStatement_any _ _ _ _ _).mono ?_; rintro e w' ⟨rfl, rfl⟩))
  go_wp2
  go_end0
  refine ⟨rfl, .slice (some ⟨g, 0, none⟩) (m + 1) cap, ?_, ?_⟩
  ·rw [zk HL]; exact ((zk H).alloc _).heap rfl
  ·exact ((Below.refl b w).alloc (Nat.le_of_lt (zk HC)) _).drew
theorem endLine_any (b k : Nat) (s : ByteArray) (sv : Value) (ts : List Tok) (w : World) (h : St w b s k sv ts) (hn : ts.length ≤ 100000) :
 Calls Tryz.prog 28 #[.pointer (some ⟨b, 0, none⟩)] w fun ev w' => ev = .returned (.tuple #[]) ∧ ∃ sv', St w' b s k sv' (endL ts k) ∧ Below b w w' := by
 rcases List.eq_nil_or_concat ts with rfl | ⟨r, t, rfl⟩
 ·refine (endLine_nil b k s sv w h).mono ?_
  rintro e w' ⟨rfl, h1, h2⟩
  exact ⟨rfl, sv, h1, h2⟩
 ·rw [List.concat_eq_append] at *
  exact endLine_some b k s sv r t w h (by simp at hn; omega)
end Go.Proofs.YtheknbfbneghgaaGreatDoor
