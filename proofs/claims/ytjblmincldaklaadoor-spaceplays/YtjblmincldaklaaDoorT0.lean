/- The law's own space: its heap, its list of blocks, what is held. -/
import Derived.Test.YtjblmincldaklaaDoorFi2
import Derived.Test.YtjblmincldaklaaDoorRf5
namespace Go.Proofs.YtjblmincldaklaaDoor
open Go.RowKit Go.Proofs.YtjblmincldaklaaDoor.Hp
/-- A block of the list: where, its header's parts, its room, its words' row. -/
structure Tb where
  at_ : Nat
  kd : Int
  sz : Int
  ms : Int
  room : Nat
  gw : Nat
def lbT (b : Tb) : Lb := ⟨b.at_, b.kd, b.sz, b.ms, some ⟨b.gw, 0, none⟩, b.room - 1, b.room - 1⟩
/-- What the lists tell of the heap. -/
structure Tm (A : Nat → Kd) (wd : Nat → Int) (L : List Rb) (T : List Tb) : Prop where
  mt : Match A L
  lv : ∀ x, roomN A x ≠ 0 ↔ ∃ b ∈ T, b.at_ = x
  nd : (T.map Tb.at_).Nodup
  bl : ∀ b ∈ T, roomN A b.at_ = b.room ∧ Right b.kd b.sz b.ms ∧ wd b.at_ = hdr b.kd b.sz b.ms ∧ b.sz < b.room
  rg : ∀ b ∈ T, ∀ q, q < b.room - 1 → -9223372036854775808 ≤ wd (b.at_ + (q + 1)) ∧ wd (b.at_ + (q + 1)) < 9223372036854775808
/-- The same in memory. -/
structure Tw (w : World) (pt pb base N : Nat) (wd : Nat → Int) (L : List Rb) (lv : Value) (T : List Tb) (tv : Value) (al : List Nat) (av : Value) (held : List Int) (dv : Value) (cnt : Nat) : Prop where
  c0 : w.cell? ⟨pt, 0, none⟩ = some (.pointer (some ⟨pb, 0, none⟩))
  c1 : w.cell? ⟨pt, 1, none⟩ = some tv ∧ w.frozen? ⟨pt, 1, none⟩ = false
  c2 : w.cell? ⟨pt, 2, none⟩ = some av ∧ w.frozen? ⟨pt, 2, none⟩ = false
  c3 : w.cell? ⟨pt, 3, none⟩ = some dv ∧ w.frozen? ⟨pt, 3, none⟩ = false
  c4 : w.cell? ⟨pt, 4, none⟩ = some (.int .i64 cnt) ∧ w.frozen? ⟨pt, 4, none⟩ = false
  ref : RefAt w pb base N L lv
  tl : w.ownsRow base 62 5 tv T.length (lbAll (T.map lbT))
  al : w.ownsRow base 3 1 av al.length (al.map nv)
  dl : w.ownsRow base 3 1 dv held.length (held.map (Value.int .i64))
  st : pt < base ∧ pb < base ∧ pt ≠ pb ∧ 2 ≤ pt ∧ 2 ≤ pb ∧ base ≤ w.heap.size
  ws : ∀ b ∈ T, base ≤ b.gw ∧ Row w b.gw (b.room - 1) (fun q => .int .i64 (wd (b.at_ + (q + 1)))) ∧ 2 ≤ b.room
  gd : (T.map Tb.gw).Nodup
  ga : ∀ b ∈ T, av.ownBlock ≠ some b.gw ∧ dv.ownBlock ≠ some b.gw
  ad : ∀ g, av.ownBlock = some g → dv.ownBlock ≠ some g
  gl : ∀ b ∈ T, lv.ownBlock ≠ some b.gw ∧ tv.ownBlock ≠ some b.gw
/-- Its blocks. -/
def TwK (pt pb : Nat) (lv : Value) (T : List Tb) (tv av dv : Value) (k : Nat) : Prop := k = pt ∨ k = pb ∨ lv.ownBlock = some k ∨ tv.ownBlock = some k ∨ av.ownBlock = some k ∨ dv.ownBlock = some k ∨ ∃ b ∈ T, b.gw = k
section
variable {w w' : World} {pt pb base N : Nat} {wd : Nat → Int} {L : List Rb} {lv : Value} {T : List Tb} {tv : Value} {al : List Nat} {av : Value} {held : List Int} {dv : Value} {cnt : Nat}
theorem Tw.lt (h : Tw w pt pb base N wd L lv T tv al av held dv cnt) {k : Nat} (hk : TwK pt pb lv T tv av dv k) : 2 ≤ k ∧ k < w.heap.size := by
  obtain ⟨s1, s2, s3, s4, s5, s6⟩ := h.st
  rcases hk with rfl | rfl | hk | hk | hk | hk | ⟨b, hb, rfl⟩
  · omega
  · omega
  · have := h.ref.own.lt k hk; omega
  · have := h.tl.lt k hk; omega
  · have := h.al.lt k hk; omega
  · have := h.dl.lt k hk; omega
  · obtain ⟨h1, h2, h3⟩ := h.ws b hb
    have := h2.lt (by omega)
    omega
theorem Tw.fr' {K : Nat → Prop} (h : Tw w pt pb base N wd L lv T tv al av held dv cnt) (k : Fr K w w') (hk : ∀ b, TwK pt pb lv T tv av dv b → ¬ K b) : Tw w' pt pb base N wd L lv T tv al av held dv cnt := by
  obtain ⟨s1, s2, s3, s4, s5, s6⟩ := h.st
  have hp := hk pt (.inl rfl)
  have e : w'.heap[pt]? = w.heap[pt]? := k.block pt (by omega) hp
  have c : ∀ i u, w.cell? ⟨pt, i, none⟩ = some u → w'.cell? ⟨pt, i, none⟩ = some u := fun i u hu => (World.cell?_of_block (w := w) (a := ⟨pt, i, none⟩) e).trans hu
  have f : ∀ i, w.frozen? ⟨pt, i, none⟩ = false → w'.frozen? ⟨pt, i, none⟩ = false := fun i hu => (World.frozen?_of_block (w := w) (a := ⟨pt, i, none⟩) e).trans hu
  exact ⟨c 0 _ h.c0, ⟨c 1 _ h.c1.1, f 1 h.c1.2⟩, ⟨c 2 _ h.c2.1, f 2 h.c2.2⟩, ⟨c 3 _ h.c3.1, f 3 h.c3.2⟩, ⟨c 4 _ h.c4.1, f 4 h.c4.2⟩,
    h.ref.fr k (hk pb (.inr (.inl rfl))) (fun g hg => hk g (.inr (.inr (.inl hg)))),
    own_blk h.tl (fun g hg => k.block g (h.tl.lt g hg).2 (hk g (.inr (.inr (.inr (.inl hg)))))),
    own_blk h.al (fun g hg => k.block g (h.al.lt g hg).2 (hk g (.inr (.inr (.inr (.inr (.inl hg))))))),
    own_blk h.dl (fun g hg => k.block g (h.dl.lt g hg).2 (hk g (.inr (.inr (.inr (.inr (.inr (.inl hg)))))))),
    ⟨s1, s2, s3, s4, s5, Nat.le_trans s6 k.size⟩,
    fun b hb => ⟨(h.ws b hb).1, (h.ws b hb).2.1.fr k (hk b.gw (.inr (.inr (.inr (.inr (.inr (.inr ⟨b, hb, rfl⟩))))))), (h.ws b hb).2.2⟩, h.gd, h.ga, h.ad, h.gl⟩
theorem Tw.quiet (h : Tw w pt pb base N wd L lv T tv al av held dv cnt) (k : Fr (fun _ => False) w w') : Tw w' pt pb base N wd L lv T tv al av held dv cnt := h.fr' k fun _ _ x => x
/-- Which number of the list begins somewhere. -/
def blockI : List Tb → Int → Int → Int
  | [], _, _ => -1
  | b :: T, x, i => if (b.at_ : Int) = x then i else blockI T x (i + 1)
theorem blockI_none {x : Int} : ∀ (T : List Tb) (i : Int), (∀ b ∈ T, (b.at_ : Int) ≠ x) → blockI T x i = -1
  | [], _, _ => rfl
  | b :: T, i, h => by
    unfold blockI
    rw [if_neg (h b (by simp))]
    exact blockI_none T (i + 1) fun c hc => h c (by simp [hc])
theorem blockI_some {x : Int} : ∀ (T : List Tb) (k : Int) (i : Nat) (b : Tb), T[i]? = some b → (b.at_ : Int) = x → (∀ j c, j < i → T[j]? = some c → (c.at_ : Int) ≠ x) → blockI T x k = k + i
  | [], _, i, _, h, _, _ => by simp at h
  | c :: T, k, 0, b, h, e, _ => by
    obtain rfl : c = b := by simpa using h
    unfold blockI
    rw [if_pos e]; omega
  | c :: T, k, i + 1, b, h, e, hn => by
    unfold blockI
    rw [if_neg (hn 0 c (by omega) rfl), blockI_some T (k + 1) i b (by simpa using h) e (fun j d hj hd => hn (j + 1) d (by omega) (by simpa using hd))]
    omega
theorem own_row5 {w : World} {base n cp g : Nat} {T : List Tb} (h : w.ownsRow base 62 5 (.slice (some ⟨g, 0, none⟩) n cp) n (lbAll (T.map lbT))) : n = T.length ∧ ∀ t b, T[t]? = some b → w.cell? ⟨g, t * 5, none⟩ = some (.int .i64 b.at_) ∧ w.cell? ⟨g, t * 5 + 1, none⟩ = some (.int .i64 b.kd) ∧ w.cell? ⟨g, t * 5 + 2, none⟩ = some (.int .i64 b.sz) ∧ w.cell? ⟨g, t * 5 + 3, none⟩ = some (.int .i64 b.ms) ∧ w.cell? ⟨g, t * 5 + 4, none⟩ = some (.slice (some ⟨b.gw, 0, none⟩) (b.room - 1) (b.room - 1)) := by
  have hn : n = T.length := by
    have := h.1
    rw [lbAll_len, List.length_map] at this
    omega
  refine ⟨hn, fun t b hb => ?_⟩
  have ht := (List.getElem?_eq_some_iff.1 hb).1
  have hb2 : (T.map lbT)[t]? = some (lbT b) := by rw [List.getElem?_map, hb]; rfl
  have c : ∀ j, j < 5 → w.cell? ⟨g, t * 5 + j, none⟩ = (lbCells (lbT b))[j]? := fun j hj => by
    rw [h.cellAt (t * 5 + j) (by omega), lbAll_get _ _ _ _ hb2 hj]
  exact ⟨c 0 (by decide), c 1 (by decide), c 2 (by decide), c 3 (by decide), c 4 (by decide)⟩
end
end Go.Proofs.YtjblmincldaklaaDoor
