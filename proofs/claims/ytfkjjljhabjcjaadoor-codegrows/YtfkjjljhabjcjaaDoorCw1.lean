/- The writer: bytes, numbers, flags, texts. -/
import Derived.Test.YtfkjjljhabjcjaaDoorCm0
import Derived.Lib.Zigzag
import Derived.Lib.AppendStr
namespace Go.Proofs.YtfkjjljhabjcjaaDoor
open Go.RowKit Go.Proofs.YtfkjjljhabjcjaaDoor.Cx

theorem Tryd.info5 : (Tryd.prog.info? 5).map (fun i => (i.zero, i.size, i.bytes)) = some (some (.int .u8 0), 1, 1) := by kernel_rfl
/-- What a writer's call leaves as it was: all but the writer and rows of bytes of the writer's own. -/
structure WFr (base wp : Nat) (w w' : World) : Prop where
  os : w'.os = w.os
  tape : w'.tape = w.tape
  output : w'.output = w.output
  size : w.heap.size ≤ w'.heap.size
  block : ∀ k, k < w.heap.size → k ≠ wp → (k < base ∨ ¬ Ty w k 5) → w'.heap[k]? = w.heap[k]?
theorem WFr.refl (base wp : Nat) (w : World) : WFr base wp w w := ⟨rfl, rfl, rfl, Nat.le_refl _, fun _ _ _ _ => rfl⟩
theorem WFr.trans {base wp : Nat} {a b c : World} (h : WFr base wp a b) (k : WFr base wp b c) : WFr base wp a c :=
  ⟨k.os.trans h.os, k.tape.trans h.tape, k.output.trans h.output, Nat.le_trans h.size k.size, fun i hi hw ht => by
    have h1 := h.block i hi hw ht
    refine (k.block i (Nat.lt_of_lt_of_le hi h.size) hw ?_).trans h1
    rcases ht with ht | ht
    · exact .inl ht
    · exact .inr fun x => ht (x.same h1.symm)⟩
theorem WFr.alloc {base wp : Nat} {a w : World} (h : WFr base wp a w) (o : Obj) : WFr base wp a (w.alloc o) :=
  h.trans ⟨rfl, rfl, rfl, by simp, fun _ hk _ _ => Below.heap_alloc _ _ _ hk⟩
theorem WFr.setCell {base wp : Nat} {a w : World} (h : WFr base wp a w) (p : Addr) (hp : p.block = wp) (v : Value) : WFr base wp a (w.setCell p v) :=
  h.trans ⟨rfl, rfl, rfl, by simp [World.setCell], fun _ _ hk _ => Below.heap_setCell _ _ _ _ (fun e => hk (e.trans hp))⟩
theorem WFr.cell {base wp : Nat} {w w' : World} (h : WFr base wp w w') {a : Addr} {v : Value} (hc : w.cell? a = some v) (hw : a.block ≠ wp) (ht : a.block < base ∨ ¬ Ty w a.block 5) : w'.cell? a = some v :=
  (World.cell?_of_block (h.block a.block (World.block_lt_of_cell? w a hc) hw ht)).trans hc
theorem WFr.ty {base wp k t : Nat} {w w' : World} (h : WFr base wp w w') (hc : Ty w k t) (hw : k ≠ wp) (ht : t ≠ 5) : Ty w' k t :=
  hc.same (h.block k hc.lt hw (.inr (hc.ne ht)))
theorem WFr.grown {base wp n : Nat} {w w' : World} {v : Value} {xs : List Value} (h : w.grownBy w' v.ownBlock) (ho : w.ownsRow base 5 1 v n xs) : WFr base wp w w' :=
  ⟨h.os, h.tape, h.output, h.size, fun k hk _ ht => h.block k hk fun e => by
    have h1 := ho.lt k e.symm
    have h2 := Ty.own ho e.symm
    rcases ht with ht | ht
    · omega
    · exact ht h2⟩
/-- The writer at wp has written bs. -/
def WrS (w : World) (wp base : Nat) (bs : List UInt8) : Prop :=
  ∃ ao cp, w.cell? ⟨wp, 0, none⟩ = some (.slice ao bs.length cp) ∧ w.frozen? ⟨wp, 0, none⟩ = false ∧ w.ownsRow base 5 1 (.slice ao bs.length cp) bs.length (bs.map byteV) ∧ Ty w wp 56 ∧ base ≤ w.heap.size
theorem WrS.keep {w w' : World} {wp base : Nat} {bs : List UInt8} (h : WrS w wp base bs) (hs : w.heap.size ≤ w'.heap.size) (hb : ∀ k, (k = wp ∨ Ty w k 5) → w'.heap[k]? = w.heap[k]?) : WrS w' wp base bs := by
  obtain ⟨ao, cp, h1, h2, h3, h4, h5⟩ := h
  exact ⟨ao, cp, (World.cell?_of_block (w := w) (a := ⟨wp, 0, none⟩) (hb wp (.inl rfl))).trans h1, (World.frozen?_of_block (w := w) (a := ⟨wp, 0, none⟩) (hb wp (.inl rfl))).trans h2,
    own_blk h3 (fun g hg => hb g (.inr (Ty.own h3 hg))), h4.same (hb wp (.inl rfl)), by omega⟩
theorem WrS.alloc {w : World} {wp base : Nat} {bs : List UInt8} (h : WrS w wp base bs) (o : Obj) : WrS (w.alloc o) wp base bs := by
  have hw : wp < w.heap.size := by obtain ⟨_, _, _, _, _, h4, _⟩ := h; exact h4.lt
  exact h.keep (by simp) fun k hk => Below.heap_alloc _ _ _ (by rcases hk with rfl | hk; exact hw; exact hk.lt)
/-- A cell that isn't the writer's and isn't of a row of bytes is set. -/
theorem WrS.setCell {w : World} {wp base : Nat} {bs : List UInt8} (h : WrS w wp base bs) {a : Addr} (ha : a.block ≠ wp) (ht : ¬ Ty w a.block 5) (v : Value) : WrS (w.setCell a v) wp base bs :=
  h.keep (by simp [World.setCell]) fun k hk => Below.heap_setCell _ _ _ _ (fun e => by
    rcases hk with rfl | hk
    · exact ha e.symm
    · exact ht (e ▸ hk))
theorem WrS.push {w w1 : World} {wp base g cp cap : Nat} {ao : Option Addr} {bs news : List UInt8} (h4 : Ty w wp 56) (hc : w.cell? ⟨wp, 0, none⟩ = some (.slice ao bs.length cp)) (h2 : w.frozen? ⟨wp, 0, none⟩ = false) (h3 : w.ownsRow base 5 1 (.slice ao bs.length cp) bs.length (bs.map byteV)) (h5 : base ≤ w.heap.size) (o : Obj)
    (ho : w1.ownsRow base 5 1 (.slice (some ⟨g, 0, none⟩) (bs.length + news.length) cap) (bs.length + news.length) (bs.map byteV ++ news.map byteV)) (hg : (w.alloc o).grownBy w1 (Value.slice ao bs.length cp).ownBlock) :
    w1.cell? ⟨wp, 0, none⟩ = some (.slice ao bs.length cp) ∧ w1.frozen? ⟨wp, 0, none⟩ = false ∧ WrS (w1.setCell ⟨wp, 0, none⟩ (.slice (some ⟨g, 0, none⟩) (bs.length + news.length) cap)) wp base (bs ++ news) ∧ WFr base wp w w1 := by
  have hF : WFr base wp w w1 := ((WFr.refl base wp w).alloc o).trans (WFr.grown hg (h3.alloc o))
  have hwl := h4.lt
  have hne : some wp ≠ (Value.slice ao bs.length cp).ownBlock := fun e => (h4.ne (by decide)) (Ty.own h3 e.symm)
  have hblk : w1.heap[wp]? = w.heap[wp]? := (hg.block wp (by simp; omega) hne).trans (Below.heap_alloc _ _ _ hwl)
  have hc1 : w1.cell? ⟨wp, 0, none⟩ = some (.slice ao bs.length cp) := (World.cell?_of_block (w := w) (a := ⟨wp, 0, none⟩) hblk).trans hc
  have hT : Ty w1 wp 56 := h4.same hblk
  have hwg : wp ≠ g := fun e => (hT.ne (by decide)) (Ty.own ho (by rw [e]; rfl))
  refine ⟨hc1, (World.frozen?_of_block (w := w) (a := ⟨wp, 0, none⟩) hblk).trans h2, ⟨some ⟨g, 0, none⟩, cap, ?_, ?_, ?_, hT.setCell _ _, ?_⟩, hF⟩
  · rw [List.length_append]; exact World.cell?_setCell_same _ _ _ hc1
  · rw [World.frozen?_setCell]; exact (World.frozen?_of_block (w := w) (a := ⟨wp, 0, none⟩) hblk).trans h2
  · rw [List.length_append, List.map_append]
    exact own_blk ho fun x hx => Below.heap_setCell _ _ _ _ (fun e => by
      have : g = x := by simpa [Value.ownBlock] using hx
      exact hwg (e.symm.trans this.symm))
  · have := hF.size
    simp [World.setCell]
    omega
def WrP (base wp : Nat) (bs news : List UInt8) (w : World) (e : Ending) (w' : World) : Prop := e = .returned (.tuple #[]) ∧ WrS w' wp base (bs ++ news) ∧ WFr base wp w w'
theorem byte_news (w : World) (b : UInt8) : ∀ j u, [Value.int .u8 (b.toNat : Int)][j]? = some u → (w.alloc (.cells #[.int .u8 (b.toNat : Int)] 5)).cell? ((⟨w.heap.size, 0, none⟩ : Addr).add j) = some u := by
  intro j u hj
  match j, hj with
  | 0, hj => simp at hj; subst hj; simp [Addr.add]
  | j + 1, hj => simp at hj
set_option maxRecDepth 100000 in
set_option maxHeartbeats 1000000 in
theorem octet_w (base wp : Nat) (bs : List UInt8) (b : UInt8) (w : World) (h : WrS w wp base bs) (hl : bs.length ≤ 1000000000) :
    Calls Tryd.prog 46 #[.pointer (some ⟨wp, 0, none⟩), .int .u8 (b.toNat : Int)] w fun e w' => WrP base wp bs [b] w e w' := by
  obtain ⟨ao, cp, hc, hf, ho, hT, hb⟩ := h
  have HO := hide ho
  have HP := hide (fun w1 g cap => WrS.push (w1 := w1) (g := g) (cap := cap) (news := [b]) hT hc hf ho hb)
  clear ho hT
  obtain ⟨i1, hi, hz0, hz1, hz2⟩ := info_parts Tryd.info5
  go_enter Tryd.func46, Tryd.ntmps46
  go_wp2_with (first | (at_builtin; refine wpList_append_lies _ rfl (.tmp 8) (.tmp 10) 32 rfl base 5 i1 (.int .u8 0) 1 1 Tryd.underlying32 hi hz0 hz1 hz2 rfl (by decide) (.slice ao bs.length cp) bs.length (bs.map byteV) rfl ((unhide HO).alloc _) ⟨w.heap.size, 0, none⟩ 1 1 [.int .u8 (b.toNat : Int)] rfl rfl (byte_news w b) (bytes_one [b]) (by decide) (by unfold maxLen; omega) (by omega) (by simp; omega) _ rfl ?_; intro g cap w1 hown hgrow _ _; have hp := (unhide HP) w1 g cap _ hown hgrow; have hc1 := hp.1; have hf1 := hp.2.1; have HE := hide hp.2.2; clear hp hown hgrow))
  go_end0
  exact ⟨rfl, (unhide HE).1, (unhide HE).2.setCell _ rfl _⟩
end Go.Proofs.YtfkjjljhabjcjaaDoor
