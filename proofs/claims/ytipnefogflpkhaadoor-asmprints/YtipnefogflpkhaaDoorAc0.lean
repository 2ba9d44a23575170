/- The writer's letters and numbers. -/
import Derived.Test.YtipnefogflpkhaaDoorAb2
import Derived.Test.YtipnefogflpkhaaDoorAi
import Derived.Deep.LoopGhost
import Derived.Deep.RegionHeld2
import Derived.Lib.LaidTab
set_option linter.unusedVariables false
set_option linter.unusedSimpArgs false
namespace Go.Proofs.YtipnefogflpkhaaDoor
open Go.RowKit
abbrev lim : Nat := 140737488355328
/-- A builder that holds the bytes l. -/
structure Wr (k : Bool) (B b : Nat) (l : List UInt8) (w : World) : Prop where
  pb : PB k B b (Lib.byteCells l) w
  size : B ≤ w.heap.size
theorem Wr.alloc {k : Bool} {B b : Nat} {l : List UInt8} {w : World} (h : Wr k B b l w) (o : Obj) : Wr k B b l (w.alloc o) := ⟨h.pb.alloc o, by have := h.size; simp; omega⟩
theorem Wr.grown {k : Bool} {B b : Nat} {l : List UInt8} {w w' : World} (h : Wr k B b l w) (hg : w.grownBy w' none) : Wr k B b l w' := ⟨h.pb.grown hg, Nat.le_trans h.size hg.size⟩
theorem WF.alloc {B b : Nat} {a w : World} (h : WF B b a w) (hB : B ≤ w.heap.size) (o : Obj) : WF B b a (w.alloc o) := ⟨h.below.alloc hB o, h.others.alloc o⟩
theorem WF.grownN {B b : Nat} {a w w' : World} (h : WF B b a w) (hB : B ≤ w.heap.size) (hg : w.grownBy w' none) : WF B b a w' := ⟨h.below.grown hg hB (fun k hk => by cases hk), h.others.grown hg (fun g hg => by cases hg)⟩
theorem WF.cell {B b : Nat} {a w : World} (h : WF B b a w) {p : Addr} {v : Value} (hp : p.block < B) (hc : a.cell? p = some v) : w.cell? p = some v := (World.cell?_of_block (h.below.block _ hp)).trans hc
/-- What stands in a block that is no row of bytes and not the builder's. -/
theorem WF.other {B b : Nat} {a w : World} (h : WF B b a w) {j : Nat} {cs : Array Value} {t : TypeId} {fz : Nat × Nat} (hj : a.heap[j]? = some (.cells cs t fz)) (ht : t ≠ 5) (hb : j ≠ b) : w.heap[j]? = some (.cells cs t fz) :=
  h.others j _ hj (fun e => hb (Option.some.inj e)) (fun c f e => ht (by cases e; rfl))
def WrP (k : Bool) (B b : Nat) (l : List UInt8) (w : World) (e : Ending) (w' : World) : Prop := (∃ v, e = .returned v) ∧ Wr k B b l w' ∧ WF B b w w'
theorem byteCells_app (l m : List UInt8) : Lib.byteCells (l ++ m) = Lib.byteCells l ++ Lib.byteCells m := by simp [Lib.byteCells]
theorem writeS (k : Bool) (B b : Nat) (l : List UInt8) (s : ByteArray) (w : World) (h : Wr k B b l w) (hl : (l ++ s.data.toList).length ≤ lim) :
    Calls Tryd.prog 17 #[.pointer (some ⟨b, 0, none⟩), .string s] w fun e w' => WrP k B b (l ++ s.data.toList) w e w' := by
  have e : s.data.toList.length = s.size := Array.length_toList
  rw [List.length_append] at hl
  unfold lim at hl
  refine (writeS_k k B b _ s w h.pb (by rw [Lib.byteCells_length]; omega) h.size).mono ?_
  rintro e w' ⟨hv, hA, hF⟩
  refine ⟨hv, ⟨.inr ?_, Nat.le_trans h.size hF.below.size⟩, hF⟩
  rw [byteCells_app]
  exact hA
theorem writeB (k : Bool) (B b : Nat) (l : List UInt8) (c : UInt8) (w : World) (h : Wr k B b l w) (hl : (l ++ [c]).length ≤ lim) :
    Calls Tryd.prog 21 #[.pointer (some ⟨b, 0, none⟩), .int .u8 c.toNat] w fun e w' => WrP k B b (l ++ [c]) w e w' := by
  rw [List.length_append] at hl
  unfold lim at hl
  refine (writeB_k k B b _ c.toNat w h.pb (by rw [Lib.byteCells_length]; exact hl) h.size).mono ?_
  rintro e w' ⟨hv, hA, hF⟩
  refine ⟨hv, ⟨.inr ?_, Nat.le_trans h.size hF.below.size⟩, hF⟩
  rw [byteCells_app]
  exact hA
/-- What the start lays: the table that strconv reads. -/
abbrev TabOk (w : World) : Prop := Lib.TabIs Tryd.prog w "internal/strconv.uint64pow10" .u64 Lib.pow10Tab
theorem itoa_any (W0 : World) (hT : TabOk W0) (z : Int) (hz : okN z) (w : World) (hB : Below W0.heap.size W0 w) :
    Calls Tryd.prog 18 #[.int .i64 z] w fun e w' => e = .returned (.string ⟨(itoaT z).toArray⟩) ∧ w.grownBy w' none := by
  refine (Tryd.strconv_Itoa z hz.1 hz.2 w (Lib.tabBelow_of_tabIs hT w hB)).mono ?_
  rintro e w2 ⟨rfl, k, os, rfl⟩
  refine ⟨rfl, ?_⟩
  have hd : ∀ (n : Nat) (w : World), (w.drewN n).heap = w.heap ∧ (w.drewN n).tape = w.tape ∧ (w.drewN n).output = w.output ∧ (w.drewN n).os = w.os := by
    intro n
    induction n with
    | zero => exact fun _ => ⟨rfl, rfl, rfl, rfl⟩
    | succ n ih => exact fun w => ih w.drew
  obtain ⟨h1, h2, h3, h4⟩ := hd k w
  refine ⟨h4, h2, h3, ?_, fun i hi _ => ?_⟩
  · simp [Sort.grow, h1]
  · simp [Sort.grow, h1, Array.getElem?_append_left hi]
theorem pre_le {l f m : List UInt8} (h : (l ++ m).length ≤ lim) (hf : f.length ≤ m.length) : (l ++ f).length ≤ lim := by
  rw [List.length_append] at *
  omega
theorem WrP.cong {k : Bool} {B b : Nat} {l l' : List UInt8} {w w' : World} {e : Ending} (h : WrP k B b l w e w') (hl : l = l') : WrP k B b l' w e w' := hl ▸ h
theorem Wr.cong {k : Bool} {B b : Nat} {l l' : List UInt8} {w : World} (h : Wr k B b l w) (hl : l = l') : Wr k B b l' w := hl ▸ h
/-- A builder under way: what it holds, and what has stayed since w0. -/
structure St (k : Bool) (B b : Nat) (l : List UInt8) (w0 w : World) : Prop where
  wr : Wr k B b l w
  wf : WF B b w0 w
def StP (k : Bool) (B b : Nat) (l : List UInt8) (w0 : World) (e : Ending) (w' : World) : Prop := (∃ v, e = .returned v) ∧ St k B b l w0 w'
theorem Wr.st {k : Bool} {B b : Nat} {l : List UInt8} {w : World} (h : Wr k B b l w) : St k B b l w w := ⟨h, WF.refl ..⟩
theorem St.drew {k : Bool} {B b : Nat} {l : List UInt8} {w0 w : World} (h : St k B b l w0 w) : St k B b l w0 w.drew := ⟨⟨h.wr.pb, h.wr.size⟩, ⟨h.wf.below.drew, h.wf.others.drew⟩⟩
theorem St.cong {k : Bool} {B b : Nat} {l l' : List UInt8} {w0 w : World} (h : St k B b l w0 w) (hl : l = l') : St k B b l' w0 w := hl ▸ h
theorem St.alloc {k : Bool} {B b : Nat} {l : List UInt8} {w0 w : World} (h : St k B b l w0 w) (o : Obj) : St k B b l w0 (w.alloc o) := ⟨h.wr.alloc o, h.wf.alloc h.wr.size o⟩
theorem St.grown {k : Bool} {B b : Nat} {l : List UInt8} {w0 w w' : World} (h : St k B b l w0 w) (hg : w.grownBy w' none) : St k B b l w0 w' := ⟨h.wr.grown hg, h.wf.grownN h.wr.size hg⟩
theorem St.cell {k : Bool} {B b : Nat} {l : List UInt8} {w0 w : World} (h : St k B b l w0 w) {p : Addr} {v : Value} (hp : p.block < B) (hc : w0.cell? p = some v) : w.cell? p = some v := h.wf.cell hp hc
theorem St.at {k : Bool} {B b : Nat} {l : List UInt8} {w0 w : World} (h : St k B b l w0 w) (j : Nat) (hj : j < B) : w.heap[j]? = w0.heap[j]? := h.wf.below.block j hj
theorem St.put {k : Bool} {B b : Nat} {l l' : List UInt8} {w0 w w' : World} {e : Ending} (h : St k B b l w0 w) (hp : WrP k B b l' w e w') : St k B b l' w0 w' := ⟨hp.2.1, h.wf.trans hp.2.2⟩
theorem St.s {k : Bool} {B b : Nat} {l : List UInt8} {w0 w : World} (h : St k B b l w0 w) (s : ByteArray) {l' : List UInt8} (hl' : l ++ s.data.toList = l') (hl : l'.length ≤ lim) :
    Calls Tryd.prog 17 #[.pointer (some ⟨b, 0, none⟩), .string s] w fun e w' => StP k B b l' w0 e w' := by
  subst hl'
  exact (writeS k B b l s w h.wr hl).mono fun e w' hp => ⟨hp.1, h.put hp⟩
theorem St.n {k : Bool} {B b : Nat} {l : List UInt8} {w0 w : World} (h : St k B b l w0 w) (m : List UInt8) {l' : List UInt8} (hl' : l ++ m = l') (hl : l'.length ≤ lim) :
    Calls Tryd.prog 17 #[.pointer (some ⟨b, 0, none⟩), .string ⟨m.toArray⟩] w fun e w' => StP k B b l' w0 e w' := h.s _ hl' hl
theorem St.b {k : Bool} {B b : Nat} {l : List UInt8} {w0 w : World} (h : St k B b l w0 w) (c : UInt8) {l' : List UInt8} (hl' : l ++ [c] = l') (hl : l'.length ≤ lim) :
    Calls Tryd.prog 21 #[.pointer (some ⟨b, 0, none⟩), .int .u8 c.toNat] w fun e w' => StP k B b l' w0 e w' := by
  subst hl'
  exact (writeB k B b l c w h.wr hl).mono fun e w' hp => ⟨hp.1, h.put hp⟩
/-- The start: the tables as they are laid, and a world behind it. -/
structure Env (W0 w0 : World) (B : Nat) : Prop where
  tab : TabOk W0
  below : Below W0.heap.size W0 w0
  size : W0.heap.size ≤ B
theorem St.itoa {W0 : World} {k : Bool} {B b : Nat} {l : List UInt8} {w0 w : World} (h : St k B b l w0 w) (hE : Env W0 w0 B) (z : Int) (hz : okN z) :
    Calls Tryd.prog 18 #[.int .i64 z] w fun e w' => e = .returned (.string ⟨(itoaT z).toArray⟩) ∧ St k B b l w0 w' :=
  (itoa_any W0 hE.tab z hz w (hE.below.trans (h.wf.below.mono hE.size))).mono fun e w' hp => ⟨hp.1, h.grown hp.2⟩
theorem numT_at {xs : List Int} {i : Nat} (h : i < xs.length) : numT xs i = (if 0 < i then [32] else []) ++ itoaT xs[i] := by simp [numT, List.getD_eq_getElem?_getD, List.getElem?_eq_getElem h]
theorem refT_at {xs : List Bool} {i : Nat} (h : i < xs.length) : refT xs i = [if xs[i] then 114 else 110] := by simp [refT, List.getD_eq_getElem?_getD, List.getElem?_eq_getElem h]
set_option maxRecDepth 100000 in
set_option maxHeartbeats 2000000 in
theorem letters_any (B b : Nat) (l : List UInt8) (xs : List Bool) (a : Option Addr) (cap : Nat) (w0 w : World) (h : St false B b l w0 w) (hR : RowOf flagC 1 (· < B) w0 xs a) (hl : (l ++ refsT xs).length ≤ lim) :
    Calls Tryd.prog 20 #[.pointer (some ⟨b, 0, none⟩), .slice a xs.length cap] w fun e w' => StP false B b (l ++ refsT xs) w0 e w' := by
  have HR := hide hR
  have HL := hide hl
  have hx := hR.1
  clear hR hl
  go_enter Tryd.func20, Tryd.ntmps20
  go_wp2
  go_loopw [8] (fun t wr => ∃ i : Nat, i ≤ xs.length ∧ t = .int .i64 i ∧ St false B b (l ++ cat (refT xs) i) w0 wr) (fun t _ => xs.length - (intOf t).toNat)
  case atStart => exact ⟨0, Nat.zero_le _, rfl, h.cong (by simp [cat])⟩
  case round =>
    obtain ⟨i, hi, rfl, HS⟩ := hrel
    by_cases hlt : i < xs.length
    · obtain ⟨rb, off, cs, e1, hS, hc, hcell⟩ := row_get flagG (unhide HR) HS.at hlt
      obtain rfl := hc
      have hc0 : wr.cell? ⟨rb, off + i, none⟩ = some (.bool xs[i]) := by have := hcell 0 _ rfl; simpa using this
      have HP : Hid ((l ++ cat (refT xs) (i + 1)).length ≤ lim) := hide (pre_le (unhide HL) (cat_le _ (by omega)))
      have HT : Hid (∀ c : UInt8, (if xs[i] then (114 : UInt8) else 110) = c → l ++ cat (refT xs) i ++ [c] = l ++ cat (refT xs) (i + 1)) := hide (fun c hc => by rw [cat_succ, refT_at hlt, hc, List.append_assoc])
      subst e1
      clear hcell
      generalize xs[i] = x at *
      cases x with
      | true =>
        have HC := hide (HS.b 114 ((unhide HT) _ rfl) (unhide HP))
        clear HS
        go_wp2_with (go_at_call 21; refine (unhide HC).mono ?_)
        rintro e w2 ⟨⟨v, rfl⟩, HS⟩
        clear HC
        go_wp2
        go_roundw
        case rel => exact ⟨i + 1, by omega, by simp, HS⟩
        case measure => simp [intOf]; omega
      | false =>
        have HC := hide (HS.b 110 ((unhide HT) _ rfl) (unhide HP))
        clear HS
        go_wp2_with (go_at_call 21; refine (unhide HC).mono ?_)
        rintro e w2 ⟨⟨v, rfl⟩, HS⟩
        clear HC
        go_wp2
        go_roundw
        case rel => exact ⟨i + 1, by omega, by simp, HS⟩
        case measure => simp [intOf]; omega
    · obtain rfl : i = xs.length := by omega
      go_wp2
      go_end0
      exact ⟨⟨_, rfl⟩, HS⟩
set_option maxRecDepth 100000 in
set_option maxHeartbeats 2000000 in
theorem numbers_any (W0 : World) (B b : Nat) (l : List UInt8) (xs : List Int) (a : Option Addr) (cap : Nat) (w0 w : World) (hE : Env W0 w0 B) (h : St false B b l w0 w) (hR : RowOf numC 1 (· < B) w0 xs a) {l' : List UInt8} (hl' : l ++ numsT xs = l') (hl : l'.length ≤ lim) :
    Calls Tryd.prog 19 #[.pointer (some ⟨b, 0, none⟩), .slice a xs.length cap] w fun e w' => StP false B b l' w0 e w' := by
  have HR := hide hR
  have hx := hR.1
  obtain ⟨T, hT⟩ : ∃ T : Nat → List UInt8, ∀ i, l ++ [91] ++ cat (numT xs) i = T i := ⟨_, fun _ => rfl⟩
  have hlen : l'.length = (T xs.length).length + 1 := by rw [← hl', ← hT]; simp [numsT]; omega
  have H0 := hide (h.b 91 (l' := T 0) (by rw [← hT]; simp [cat]) (by have h1 := cat_le (numT xs) (Nat.zero_le xs.length); rw [hlen, ← hT, List.length_append, List.length_append] at hl; rw [← hT, List.length_append, List.length_append]; omega))
  have HP : Hid (∀ i, i ≤ xs.length → (T i).length ≤ lim) := hide (fun i hi => by have h1 := cat_le (numT xs) hi; rw [hlen, ← hT, List.length_append, List.length_append] at hl; rw [← hT, List.length_append, List.length_append]; omega)
  have HEm : Hid (T xs.length ++ [93] = l') := hide (by rw [← hT, ← hl']; simp [numsT])
  have HL := hide hl
  have HTs : Hid (∀ i (h : i < xs.length), T i ++ ((if 0 < i then [32] else []) ++ itoaT xs[i]) = T (i + 1)) := hide (fun i h => by rw [← hT, ← hT, cat_succ, numT_at h, List.append_assoc])
  clear hR hl hlen h hT hl'
  go_enter Tryd.func19, Tryd.ntmps19
  go_wp2_with (go_at_call 21; refine (unhide H0).mono ?_)
  rintro e w1 ⟨⟨v, rfl⟩, HS⟩
  clear H0
  go_wp2
  go_loopw [12] (fun t wr => ∃ i : Nat, i ≤ xs.length ∧ t = .int .i64 i ∧ St false B b (T i) w0 wr) (fun t _ => xs.length - (intOf t).toNat)
  case atStart => exact ⟨0, Nat.zero_le _, rfl, HS⟩
  case round =>
    clear HS
    obtain ⟨i, hi, rfl, HS⟩ := hrel
    by_cases hlt : i < xs.length
    · obtain ⟨rb, off, cs, e1, hS, hc, hcell⟩ := row_get numG (unhide HR) HS.at hlt
      obtain ⟨hz, rfl⟩ := hc
      have hc0 : wr.cell? ⟨rb, off + i, none⟩ = some (.int .i64 xs[i]) := by have := hcell 0 _ rfl; simpa using this
      have HT := hide ((unhide HTs) i hlt)
      have HP1 := hide ((unhide HP) (i + 1) (by omega))
      have HZ := hide hz
      subst e1
      generalize xs[i] = x at *
      clear hcell hz
      by_cases h0 : 0 < i
      · have h0' : (0 : Int) < (i : Int) := by omega
        obtain ⟨t2, ht2⟩ : ∃ t2, T i ++ [32] = t2 := ⟨_, rfl⟩
        have HT2 : Hid (t2 ++ itoaT x = T (i + 1)) := hide (by rw [← unhide HT, if_pos h0, ← ht2, List.append_assoc])
        have HC := hide (HS.b 32 ht2 (by have h1 := unhide HP1; rw [← unhide HT2, List.length_append] at h1; omega))
        clear HS HT ht2
        go_wp2_with (go_at_call 21; refine (unhide HC).mono ?_)
        rintro e w2 ⟨⟨v2, rfl⟩, HS⟩
        clear HC
        go_wp2
        go_region_held2 (fun _ => True) (trivial) (first | (go_at_call 18; with_reducible refine (HS.drew.itoa hE _ (unhide HZ)).mono ?_; clear HS; rintro e w3 ⟨rfl, HS⟩) | (go_at_call 17; refine (HS.n _ (unhide HT2) (unhide HP1)).mono ?_; clear HS; rintro e w4 ⟨⟨v4, rfl⟩, HS⟩))
        go_wp2
        go_roundw
        case rel => exact ⟨i + 1, by omega, by simp, HS⟩
        case measure => simp [intOf]; omega
      · have h0' : ¬ (0 : Int) < (i : Int) := by omega
        have HT2 : Hid (T i ++ itoaT x = T (i + 1)) := hide (by rw [← unhide HT, if_neg h0, List.nil_append])
        clear HT
        go_wp2
        go_region_held2 (fun _ => True) (trivial) (first | (go_at_call 18; with_reducible refine (HS.drew.itoa hE _ (unhide HZ)).mono ?_; clear HS; rintro e w3 ⟨rfl, HS⟩) | (go_at_call 17; refine (HS.n _ (unhide HT2) (unhide HP1)).mono ?_; clear HS; rintro e w4 ⟨⟨v4, rfl⟩, HS⟩))
        go_wp2
        go_roundw
        case rel => exact ⟨i + 1, by omega, by simp, HS⟩
        case measure => simp [intOf]; omega
    · obtain rfl : i = xs.length := by omega
      have HC := hide (HS.b 93 (unhide HEm) (unhide HL))
      clear HS
      go_wp2_with (go_at_call 21; refine (unhide HC).mono ?_)
      rintro e w2 ⟨⟨v2, rfl⟩, HS⟩
      clear HC
      go_wp2
      go_end0
      exact ⟨⟨_, rfl⟩, HS⟩
end Go.Proofs.YtipnefogflpkhaaDoor
