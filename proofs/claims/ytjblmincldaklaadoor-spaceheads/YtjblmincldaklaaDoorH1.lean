/- SpaceHeads: what its walk needs. -/
import Derived.Test.YtjblmincldaklaaDoorH0
import Derived.Test.YtjblmincldaklaaDoorOq
namespace Go.Proofs.YtjblmincldaklaaDoor
open Go.RowKit Go.Proofs.YtjblmincldaklaaDoor.Hp
variable {w0 w w' : World} {B : HB} {n p : Nat} {A : Nat → Kd} {wd : Nat → Int} {hv va vm : Value} {held : List Int} {cnt : Nat} {L : List It}
def itC (i : It) : List Value := [.int .i64 i.k, .int .i64 i.s, .int .i64 i.m]
def atC (L : List It) : List Value := L.map fun i => .int .i64 (i.a : Int)
def mdC : List It → List Value
  | [] => []
  | i :: L => itC i ++ mdC L
theorem mdC_app (L M : List It) : mdC (L ++ M) = mdC L ++ mdC M := by
  induction L with
  | nil => rfl
  | cons i L ih => simp [mdC, ih]
theorem mdC_len (L : List It) : (mdC L).length = 3 * L.length := by
  induction L with
  | nil => rfl
  | cons i L ih => simp [mdC, itC, ih]; omega
theorem mdC_at : ∀ (L : List It) (j : Nat) (i : It), L[j]? = some i → (mdC L)[3 * j]? = some (.int .i64 i.k) ∧ (mdC L)[3 * j + 1]? = some (.int .i64 i.s) ∧ (mdC L)[3 * j + 2]? = some (.int .i64 i.m)
  | [], j, i, h => by simp at h
  | x :: L, 0, i, h => by
    obtain rfl : x = i := by simpa using h
    exact ⟨rfl, rfl, rfl⟩
  | x :: L, j + 1, i, h => by
    have := mdC_at L j i (by simpa using h)
    have e : ∀ q, (mdC (x :: L))[3 * (j + 1) + q]? = (mdC L)[3 * j + q]? := fun q => by
      show (itC x ++ mdC L)[3 * (j + 1) + q]? = _
      rw [List.getElem?_append_right (by simp [itC]; omega)]
      congr 1
      simp [itC]; omega
    exact ⟨by have := this.1; rw [← this]; exact e 0, by rw [← this.2.1]; exact e 1, by rw [← this.2.2]; exact e 2⟩
/-- A space, and the law's two rows. -/
structure HdM (w0 w : World) (B : HB) (p : Nat) (A : Nat → Kd) (wd : Nat → Int) (hv va vm : Value) (L : List It) : Prop where
  lw : Lw w0 w B 512 p A wd hv (L.map fun i => (i.a : Int)) 0
  rva : w.ownsRow w0.heap.size 3 1 va L.length (atC L)
  rvm : w.ownsRow w0.heap.size 49 3 vm L.length (mdC L)
  da : ∀ g, va.ownBlock = some g → ¬ SpK B p hv g
  dm : ∀ g, vm.ownBlock = some g → ¬ SpK B p hv g
  hd : Hds A wd L
  z2 : 2 ≤ w0.heap.size
theorem HdM.quiet (h : HdM w0 w B p A wd hv va vm L) (k : Fr (fun _ => False) w w') : HdM w0 w' B p A wd hv va vm L :=
  ⟨h.lw.quiet k, own_blk h.rva (fun g hg => k.block g (h.rva.lt g hg).2 id), own_blk h.rvm (fun g hg => k.block g (h.rvm.lt g hg).2 id), h.da, h.dm, h.hd, h.z2⟩
/-- Behind Make and Hold the rows stand as they did. -/
structure HdN (w0 w : World) (B : HB) (p : Nat) (A : Nat → Kd) (wd : Nat → Int) (hv va vm : Value) (L : List It) (i : It) : Prop where
  lw : Lw w0 w B 512 p A wd hv ((L ++ [i]).map fun i => (i.a : Int)) 0
  rva : w.ownsRow w0.heap.size 3 1 va L.length (atC L)
  rvm : w.ownsRow w0.heap.size 49 3 vm L.length (mdC L)
  da : ∀ g, va.ownBlock = some g → ¬ SpK B p hv g
  dm : ∀ g, vm.ownBlock = some g → ¬ SpK B p hv g
  hd : Hds A wd (L ++ [i])
  z2 : 2 ≤ w0.heap.size
theorem own_types {w : World} {b1 b2 e1 e2 s1 s2 n1 n2 : Nat} {u v : Value} {xs ys : List Value} (h : w.ownsRow b1 e1 s1 u n1 xs) (k : w.ownsRow b2 e2 s2 v n2 ys) (he : e1 ≠ e2) (g : Nat) (hu : u.ownBlock = some g) : v.ownBlock ≠ some g := by
  intro hv
  rcases h.2 with ⟨rfl, _⟩ | ⟨g1, c1, cur1, rfl, _, h1, _⟩
  · simp [Value.ownBlock] at hu
  · rcases k.2 with ⟨rfl, _⟩ | ⟨g2, c2, cur2, rfl, _, h2, _⟩
    · simp [Value.ownBlock] at hv
    · simp [Value.ownBlock] at hu hv
      subst hu hv
      rw [h1] at h2
      simp at h2
      exact he h2.2
theorem heads_make (h : HdM w0 w B p A wd hv va vm L) (hl : L.length < 40) {k s m : Int} (hR : Right k s m) (hs : s ≤ 500) :
    Calls Tryd.prog 12 #[.pointer (some ⟨p, 0, none⟩), .int .i64 k, .int .i64 s, .int .i64 m] w fun e w' => ∃ (a : Nat) (A' : Nat → Kd), e = .returned (.tuple #[.int .i64 (a : Int), .bool true]) ∧ a < 32768 ∧ Lw w0 w' B 512 p A' (newW wd a (1 + s.toNat) (hdr k s m)) hv (L.map fun i => (i.a : Int)) 0 ∧ Hds A' (newW wd a (1 + s.toNat) (hdr k s m)) (L ++ [⟨a, k, s, m⟩]) ∧ Fr (SpK B p hv) w w' := by
  have hI := h.lw.sp.inv
  refine (Make_any h.lw.sp (by omega) k s m).mono ?_
  rintro e w' ⟨v, A1, wd1, cnt1, hm, rfl, hsp, hF⟩
  have hnp := h.hd.place hl (m := 1 + s.toNat) (by omega)
  cases hm with
  | no hr => exact absurd hR hr
  | at_ hr a A2 g =>
    have h2 := h.hd.goes hI hsp.inv hR hs g
    have h3 := room_new hI g
    have h4 := roomOfM_ge (1 + s.toNat)
    have h5 := room_in hsp.inv (show roomN A1 a ≠ 0 by omega)
    exact ⟨a, A1, rfl, by omega, h.lw.heap hsp hF, h2, hF⟩
  | gc hr hn => exact absurd hn hnp
  | full hr hn => exact absurd hn hnp
/-- Behind both appends. -/
theorem HdN.both {i : It} {W : World} {ga gm ca cm : Nat} (h : HdN w0 w B p A wd hv va vm L i) (k : Fr (fun j => va.ownBlock = some j ∨ vm.ownBlock = some j) w W)
    (ha : W.ownsRow w0.heap.size 3 1 (.slice (some ⟨ga, 0, none⟩) (L.length + 1) ca) (L.length + 1) (atC L ++ [.int .i64 (i.a : Int)])) (hm : W.ownsRow w0.heap.size 49 3 (.slice (some ⟨gm, 0, none⟩) (L.length + 1) cm) (L.length + 1) (mdC L ++ itC i))
    (oa : va.ownBlock = some ga ∨ w.heap.size ≤ ga) (om : vm.ownBlock = some gm ∨ w.heap.size ≤ gm) : HdM w0 W B p A wd hv (.slice (some ⟨ga, 0, none⟩) (L.length + 1) ca) (.slice (some ⟨gm, 0, none⟩) (L.length + 1) cm) (L ++ [i]) := by
  have hno : ∀ b, SpK B p hv b → ¬ (va.ownBlock = some b ∨ vm.ownBlock = some b) := fun b hb e => by
    rcases e with e | e
    · exact h.da b e hb
    · exact h.dm b e hb
  have hz := h.z2
  have hlo : ∀ j, (va.ownBlock = some j ∨ vm.ownBlock = some j) → w0.heap.size ≤ j := fun j e => by
    rcases e with e | e
    · exact (h.rva.lt j e).1
    · exact (h.rvm.lt j e).1
  have hds : ∀ g, (va.ownBlock = some g ∨ vm.ownBlock = some g) ∨ w.heap.size ≤ g → ¬ SpK B p hv g := fun g e hk => by
    rcases e with e | e
    · exact hno g hk e
    · have := (h.lw.sp.lt hk).2; omega
  refine ⟨⟨h.lw.sp.fr' k hno (fun e => by have := hlo 0 e; omega) (fun e => by have := hlo 1 e; omega), h.lw.far.up k hlo, h.lw.base⟩, ?_, ?_, fun g hg => ?_, fun g hg => ?_, h.hd, h.z2⟩
  · rw [List.length_append]
    unfold atC at ha ⊢
    rw [List.map_append]
    exact ha
  · rw [List.length_append, mdC_app]
    show W.ownsRow _ _ _ _ _ (mdC L ++ (itC i ++ []))
    rw [List.append_nil]
    exact hm
  · have e : ga = g := by simpa [Value.ownBlock] using hg
    subst e
    exact hds ga (oa.imp .inl id)
  · have e : gm = g := by simpa [Value.ownBlock] using hg
    subst e
    exact hds gm (om.imp .inr id)
/-- Behind the first append. -/
theorem app_1 {i : It} {W0 W1 : World} {g : Nat} (h : HdN w0 w B p A wd hv va vm L i) (hF : Fr (fun _ => False) w W0) (hg : W0.grownBy W1 va.ownBlock) (hat : va.ownBlock = some g ∨ g = W0.heap.size) :
    Fr (fun j => va.ownBlock = some j ∨ vm.ownBlock = some j) w W1 ∧ W1.ownsRow w0.heap.size 49 3 vm L.length (mdC L) ∧ (va.ownBlock = some g ∨ w.heap.size ≤ g) := by
  have hF1 : Fr (fun j => va.ownBlock = some j) w W1 := (hF.mono fun _ x => x.elim).trans ((Fr.grown hg).mono fun k e => e.symm)
  refine ⟨hF1.mono fun k e => .inl e, own_blk h.rvm (fun g hgv => hF1.block g (h.rvm.lt g hgv).2 (fun e => own_types h.rva h.rvm (by decide) g e hgv)), hat.imp id (fun e => by rw [e]; exact hF.size)⟩
/-- Behind the second one. -/
theorem app_2 {i : It} {W1 W2 W3 : World} {g c g2 c2 : Nat} (h : HdN w0 w B p A wd hv va vm L i) (h1 : Fr (fun j => va.ownBlock = some j ∨ vm.ownBlock = some j) w W1) (hvm : W1.ownsRow w0.heap.size 49 3 vm L.length (mdC L)) (hga : va.ownBlock = some g ∨ w.heap.size ≤ g)
    (ho : W1.ownsRow w0.heap.size 3 1 (.slice (some ⟨g, 0, none⟩) (L.length + 1) c) (L.length + 1) (atC L ++ [.int .i64 (i.a : Int)])) (hF : Fr (fun _ => False) W1 W2)
    (ho2 : W3.ownsRow w0.heap.size 49 3 (.slice (some ⟨g2, 0, none⟩) (L.length + 1) c2) (L.length + 1) (mdC L ++ itC i)) (hg2 : W2.grownBy W3 vm.ownBlock) (hat : vm.ownBlock = some g2 ∨ g2 = W2.heap.size) :
    HdM w0 W3 B p A wd hv (.slice (some ⟨g, 0, none⟩) (L.length + 1) c) (.slice (some ⟨g2, 0, none⟩) (L.length + 1) c2) (L ++ [i]) := by
  have hF2 : Fr (fun j => vm.ownBlock = some j) W1 W3 := (hF.mono fun _ x => x.elim).trans ((Fr.grown hg2).mono fun k e => e.symm)
  exact h.both (h1.trans (hF2.mono fun k e => .inr e)) (own_blk ho (fun j hj => hF2.block j (ho.lt j hj).2 (fun e => own_types ho hvm (by decide) j hj e))) ho2 hga (hat.imp id (fun e => by rw [e]; exact Nat.le_trans h1.size hF.size))
theorem cells3 (w : World) (x0 x1 x2 : Int) {s : Nat} (hs : s = w.heap.size) : ∀ j u, ([.int .i64 x0, .int .i64 x1, .int .i64 x2] : List Value)[j]? = some u → (w.alloc (.cells #[.int .i64 x0, .int .i64 x1, .int .i64 x2] 49)).cell? ((⟨s, 0, none⟩ : Addr).add j) = some u := by
  intro j u hu
  subst hs
  rw [show ((⟨w.heap.size, 0, none⟩ : Addr).add j) = ⟨w.heap.size, j, none⟩ by unfold Addr.add; split <;> simp_all, World.cell?_alloc_at _ _ _ _ rfl]
  rw [← hu]
  match j with
  | 0 => rfl
  | 1 => rfl
  | 2 => rfl
  | j + 3 => rfl
/-- Cells stay. -/
theorem cells_far {W : World} {K : Nat → Prop} {xs : List Value} {s : Nat} (h : ∀ j u, xs[j]? = some u → w.cell? ((⟨s, 0, none⟩ : Addr).add j) = some u) (k : Fr K w W) (hs : s < w.heap.size) (hk : ¬ K s) : ∀ j u, xs[j]? = some u → W.cell? ((⟨s, 0, none⟩ : Addr).add j) = some u := fun j u hu =>
  (World.cell?_of_block (w := w) (a := (⟨s, 0, none⟩ : Addr).add j) (by rw [show ((⟨s, 0, none⟩ : Addr).add j).block = s by unfold Addr.add; split <;> rfl]; exact k.block s hs hk)).trans (h j u hu)
/-- The array under way. -/
def XC (w : World) (b : Nat) (x0 x1 x2 : Int) : Prop := w.cell? ⟨b, 0, none⟩ = some (.int .i64 x0) ∧ w.cell? ⟨b, 1, none⟩ = some (.int .i64 x1) ∧ w.cell? ⟨b, 2, none⟩ = some (.int .i64 x2)
theorem XC.fr {K : Nat → Prop} {b : Nat} {x0 x1 x2 : Int} (h : XC w b x0 x1 x2) (k : Fr K w w') (hb : ¬ K b) : XC w' b x0 x1 x2 := by
  have hl := World.block_lt_of_cell? w ⟨b, 0, none⟩ h.1
  have e := k.block b hl hb
  exact ⟨(World.cell?_of_block (w := w) (a := ⟨b, 0, none⟩) e).trans h.1, (World.cell?_of_block (w := w) (a := ⟨b, 1, none⟩) e).trans h.2.1, (World.cell?_of_block (w := w) (a := ⟨b, 2, none⟩) e).trans h.2.2⟩
/-- Behind Make. -/
structure HdP (w0 w : World) (B : HB) (p : Nat) (A : Nat → Kd) (wd : Nat → Int) (hv va vm : Value) (L : List It) (i : It) (b : Nat) : Prop where
  lw : Lw w0 w B 512 p A wd hv (L.map fun i => (i.a : Int)) 0
  rva : w.ownsRow w0.heap.size 3 1 va L.length (atC L)
  rvm : w.ownsRow w0.heap.size 49 3 vm L.length (mdC L)
  da : ∀ g, va.ownBlock = some g → ¬ SpK B p hv g
  dm : ∀ g, vm.ownBlock = some g → ¬ SpK B p hv g
  hd : Hds A wd (L ++ [i])
  z2 : 2 ≤ w0.heap.size
  ia : i.a < 32768
  xc : XC w b i.k i.s i.m
  nb : ¬ SpK B p hv b
theorem make_x {b : Nat} (h : HdM w0 w B p A wd hv va vm L) (hl : L.length < 40) {k s m : Int} (hR : Right k s m) (hs : s ≤ 500) (hx : XC w b k s m) (hb : ¬ SpK B p hv b) :
    Calls Tryd.prog 12 #[.pointer (some ⟨p, 0, none⟩), .int .i64 k, .int .i64 s, .int .i64 m] w fun e w' => ∃ (a : Nat), e = .returned (.tuple #[.int .i64 (a : Int), .bool true]) ∧ ∃ A' wd', HdP w0 w' B p A' wd' hv va vm L ⟨a, k, s, m⟩ b := by
  refine (heads_make h hl hR hs).mono ?_
  rintro e w' ⟨a, A', rfl, ha, hL, hH, hF⟩
  exact ⟨a, rfl, A', _, hL, own_blk h.rva (fun g hg => hF.block g (h.rva.lt g hg).2 (h.da g hg)), own_blk h.rvm (fun g hg => hF.block g (h.rvm.lt g hg).2 (h.dm g hg)), h.da, h.dm, hH, h.z2, ha, hx.fr hF hb, hb⟩
theorem make_n (h : HdM w0 w B p A wd hv va vm L) {k s m : Int} (hR : ¬ Right k s m) :
    Calls Tryd.prog 12 #[.pointer (some ⟨p, 0, none⟩), .int .i64 k, .int .i64 s, .int .i64 m] w fun e w' => e = .returned (.tuple #[.int .i64 0, .bool false]) ∧ HdM w0 w' B p A wd hv va vm L := by
  refine (Make_any h.lw.sp (by omega) k s m).mono ?_
  rintro e w' ⟨v, A1, wd1, cnt1, hm, rfl, hsp, hF⟩
  cases hm with
  | no hr => exact ⟨rfl, h.lw.heap hsp hF, own_blk h.rva (fun g hg => hF.block g (h.rva.lt g hg).2 (h.da g hg)), own_blk h.rvm (fun g hg => hF.block g (h.rvm.lt g hg).2 (h.dm g hg)), h.da, h.dm, h.hd, h.z2⟩
  | at_ hr => exact absurd hr hR
  | gc hr => exact absurd hr hR
  | full hr => exact absurd hr hR
theorem hold_x {i : It} {b : Nat} (h : HdP w0 w B p A wd hv va vm L i b) (hl : L.length < 40) :
    Calls Tryd.prog 15 #[.pointer (some ⟨p, 0, none⟩), .int .i64 (i.a : Int)] w fun e w' => e = .returned (.tuple #[]) ∧ ∃ hv2, HdN w0 w' B p A wd hv2 va vm L i ∧ XC w' b i.k i.s i.m := by
  have hia := h.ia
  refine (Hold_any h.lw.sp (i.a : Int) (by omega) (by simp; omega)).mono ?_
  rintro e w' ⟨hv2, rfl, hs, hF, hg⟩
  have hva := h.rva
  have hvm := h.rvm
  have hk : ∀ v : Value, (∀ g, v.ownBlock = some g → g < w.heap.size ∧ ¬ SpK B p hv g) → ∀ g, v.ownBlock = some g → ¬ SpK B p hv2 g := fun v hv1 g hgv hk => by
    rcases hk with hk | hk | hk
    · exact (hv1 g hgv).2 (.inl hk)
    · exact (hv1 g hgv).2 (.inr (.inl hk))
    · rcases hg g hk with e | e
      · exact (hv1 g hgv).2 (.inr (.inr e))
      · have := (hv1 g hgv).1; omega
  exact ⟨rfl, hv2, ⟨by rw [List.map_append]; exact h.lw.to hs hF hg, own_blk hva (fun g hgv => hF.block g (hva.lt g hgv).2 (h.da g hgv)), own_blk hvm (fun g hgv => hF.block g (hvm.lt g hgv).2 (h.dm g hgv)), hk va (fun g e => ⟨(hva.lt g e).2, h.da g e⟩), hk vm (fun g e => ⟨(hvm.lt g e).2, h.dm g e⟩), h.hd, h.z2⟩, h.xc.fr hF h.nb⟩
theorem it_in (h : HdM w0 w B p A wd hv va vm L) {t : Nat} {i : It} (ht : L[t]? = some i) : ItAt A wd i ∧ roomI A (i.a : Int) ≠ 0 ∧ kinI A wd (i.a : Int) = i.k ∧ sizI A wd (i.a : Int) = i.s ∧ mskI A wd (i.a : Int) = i.m := by
  have hi := h.hd.all i (List.mem_of_getElem? ht)
  have hge := roomOfM_ge (1 + i.s.toNat)
  have hr : roomI A (i.a : Int) ≠ 0 := by unfold roomI; rw [if_pos (by omega), Int.toNat_natCast, hi.room]; omega
  obtain ⟨_, h2, h3, h4⟩ := hdr_open hi.rt
  refine ⟨hi, hr, ?_, ?_, ?_⟩
  · unfold kinI; rw [if_pos hr, Int.toNat_natCast, hi.hd, h2]
  · unfold sizI; rw [if_pos hr, Int.toNat_natCast, hi.hd, h3]
  · unfold mskI; rw [if_pos hr, Int.toNat_natCast, hi.hd, h4]
theorem head_x (h : HdM w0 w B p A wd hv va vm L) {t : Nat} {i : It} (ht : L[t]? = some i) :
    Calls Tryd.prog 19 #[.pointer (some ⟨p, 0, none⟩), .int .i64 (i.a : Int)] w fun e w' => e = .returned (.tuple #[.int .i64 i.k, .int .i64 i.s, .int .i64 i.m]) ∧ HdM w0 w' B p A wd hv va vm L := by
  obtain ⟨_, _, h2, h3, h4⟩ := it_in h ht
  refine (Head_any h.lw.sp (i.a : Int)).mono ?_
  rintro e w' ⟨rfl, hF⟩
  rw [h2, h3, h4]
  exact ⟨rfl, h.quiet hF⟩
theorem set_x (h : HdM w0 w B p A wd hv va vm L) (a k v : Int) (hb : hasB A wd a k = false) :
    Calls Tryd.prog 13 #[.pointer (some ⟨p, 0, none⟩), .int .i64 a, .int .i64 k, .int .i64 v] w fun e w' => e = .returned (.bool false) ∧ HdM w0 w' B p A wd hv va vm L := by
  refine (Set_any h.lw.sp a k v).mono ?_
  rintro e w' ⟨rfl, hs, hF⟩
  unfold putW at hs
  rw [hb, if_neg (by simp)] at hs
  have hF2 : Fr (SpK B p hv) w w' := hF.mono fun k hk => .inl hk
  exact ⟨ret_bool hb, h.lw.heap hs hF2, own_blk h.rva (fun g hg => hF2.block g (h.rva.lt g hg).2 (h.da g hg)), own_blk h.rvm (fun g hg => hF2.block g (h.rvm.lt g hg).2 (h.dm g hg)), h.da, h.dm, h.hd, h.z2⟩
theorem get_x (h : HdM w0 w B p A wd hv va vm L) {t q : Nat} {i : It} (ht : L[t]? = some i) (hq : (q : Int) < i.s) :
    Calls Tryd.prog 16 #[.pointer (some ⟨p, 0, none⟩), .int .i64 (i.a : Int), .int .i64 q] w fun e w' => e = .returned (.int .i64 0) ∧ HdM w0 w' B p A wd hv va vm L := by
  obtain ⟨h1, h2, _, h3, _⟩ := it_in h ht
  refine (Get_any h.lw.sp (i.a : Int) q).mono ?_
  rintro e w' ⟨rfl, hF⟩
  unfold getI hasB
  rw [h3, if_pos (by simp; omega), Int.toNat_natCast, Int.toNat_natCast, h1.ws q (by omega)]
  exact ⟨rfl, h.quiet hF⟩
theorem low_room (h : HdM w0 w B p A wd hv va vm L) : roomI A 1 = 0 := by
  by_cases hr : roomI A 1 = 0
  · exact hr
  · obtain ⟨x, e, hx⟩ := room_nat hr
    have := room_in h.lw.sp.inv hx
    omega
theorem head_1 (h : HdM w0 w B p A wd hv va vm L) :
    Calls Tryd.prog 19 #[.pointer (some ⟨p, 0, none⟩), .int .i64 1] w fun e w' => e = .returned (.tuple #[.int .i64 0, .int .i64 0, .int .i64 0]) ∧ HdM w0 w' B p A wd hv va vm L := by
  have hr := low_room h
  refine (Head_any h.lw.sp 1).mono ?_
  rintro e w' ⟨rfl, hF⟩
  unfold kinI sizI mskI
  rw [if_neg (fun x => x hr), if_neg (fun x => x hr), if_neg (fun x => x hr)]
  exact ⟨rfl, h.quiet hF⟩
theorem has_1 (h : HdM w0 w B p A wd hv va vm L) : hasB A wd 1 0 = false := by
  have hr := low_room h
  unfold hasB sizI
  rw [if_neg (fun x => x hr)]
  rfl
theorem get_1 (h : HdM w0 w B p A wd hv va vm L) :
    Calls Tryd.prog 16 #[.pointer (some ⟨p, 0, none⟩), .int .i64 1, .int .i64 0] w fun e w' => e = .returned (.int .i64 0) ∧ HdM w0 w' B p A wd hv va vm L := by
  refine (Get_any h.lw.sp 1 0).mono ?_
  rintro e w' ⟨rfl, hF⟩
  unfold getI
  rw [has_1 h, if_neg (by simp)]
  exact ⟨rfl, h.quiet hF⟩
/-- The law's rows, read. -/
theorem rows_at {aa am : Option Addr} {ca cm : Nat} (h : HdM w0 w B p A wd hv (.slice aa L.length ca) (.slice am L.length cm) L) {t : Nat} {i : It} (ht : L[t]? = some i) :
    ∃ ga gm, aa = some ⟨ga, 0, none⟩ ∧ am = some ⟨gm, 0, none⟩ ∧ L.length ≤ ca ∧ L.length ≤ cm ∧ w.cell? ⟨ga, t, none⟩ = some (.int .i64 (i.a : Int)) ∧ w.cell? ⟨gm, t * 3, none⟩ = some (.int .i64 i.k) ∧ w.cell? ⟨gm, t * 3 + 1, none⟩ = some (.int .i64 i.s) ∧ w.cell? ⟨gm, t * 3 + 2, none⟩ = some (.int .i64 i.m) := by
  have htl := (List.getElem?_eq_some_iff.1 ht).1
  obtain ⟨_, _, e1, f1⟩ := own_form h.rva
  obtain ⟨_, _, e2, f2⟩ := own_form h.rvm
  cases e1
  cases e2
  obtain ⟨ga, rfl⟩ := f1 (by omega)
  obtain ⟨gm, rfl⟩ := f2 (by omega)
  have ad : ∀ g j, ((⟨g, 0, none⟩ : Addr).add j) = ⟨g, j, none⟩ := fun g j => by unfold Addr.add; split <;> simp_all
  have m := mdC_at L t i ht
  refine ⟨ga, gm, rfl, rfl, own_cap h.rva, own_cap h.rvm, ?_, ?_, ?_, ?_⟩
  · have := h.rva.cells (g := ga) rfl t (.int .i64 (i.a : Int)) (by simp [atC, ht])
    rwa [ad] at this
  · have := h.rvm.cells (g := gm) rfl _ _ m.1
    rwa [ad, Nat.mul_comm] at this
  · have := h.rvm.cells (g := gm) rfl _ _ m.2.1
    rwa [ad, Nat.mul_comm] at this
  · have := h.rvm.cells (g := gm) rfl _ _ m.2.2
    rwa [ad, Nat.mul_comm] at this
end Go.Proofs.YtjblmincldaklaaDoor
