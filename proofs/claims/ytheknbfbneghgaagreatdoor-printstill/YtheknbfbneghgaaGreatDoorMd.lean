import Derived.Test.YtheknbfbneghgaaGreatDoorMc
import Derived.Shelf.Strconv.Itoa0
import Derived.Shelf.Strconv.Itoa1
import Derived.Shelf.LaysM
import Derived.Shelf.Strconv.Itoa2
import Derived.Shelf.Strconv.Itoa3
import Derived.Lib.AppendIntMem
set_option linter.unusedVariables false
set_option linter.unusedSimpArgs false
set_option maxHeartbeats 8000000
set_option maxRecDepth 100000
namespace Go.Proofs.YtheknbfbneghgaaGreatDoor.Pp
open Go.RowKit Go.Proofs.YtheknbfbneghgaaGreatDoor.Lx Go.Proofs.YtheknbfbneghgaaGreatDoor.Px
theorem RHp {W0 : World} {N b : Nat} {rec : PrJ → Nat → Tree → List UInt8} {j : PrJ} {d : Nat} {t : Tree} (h : Hid (RH W0 N b rec j d t)) (j' : PrJ) (hk : t.kind ≠ 0) (i : Nat) (ho : okJ j' (yM t i)) : Hid (JC W0 N b rec j' d (yM t i)) :=
  zm (zk h j' d _ (need_part hk i _ _) ho (.inl rfl) (sub_part _ _))
theorem RHr {W0 : World} {N b : Nat} {rec : PrJ → Nat → Tree → List UInt8} {j : PrJ} {d : Nat} {t : Tree} (h : Hid (RH W0 N b rec j d t)) (j' : PrJ) (hr : rnk j' < rnk j) (ho : okJ j' t) : Hid (JC W0 N b rec j' d t) :=
  zm (zk h j' d _ (need_same hr) ho (.inl rfl) (.inl rfl))
theorem RHs {W0 : World} {N b : Nat} {rec : PrJ → Nat → Tree → List UInt8} {j : PrJ} {d : Nat} {t : Tree} (h : Hid (RH W0 N b rec j d t)) (j' : PrJ) (hr : rnk j' < rnk j) (ho : okJ j' t) : Hid (JC W0 N b rec j' d t) :=
  zm (zk h j' d _ (need_same hr) ho (.inl rfl) (.inl rfl))
theorem RHk {W0 : World} {N b : Nat} {rec : PrJ → Nat → Tree → List UInt8} {j : PrJ} {d : Nat} {t : Tree} (h : Hid (RH W0 N b rec j d t)) (j' : PrJ) (ho : ∀ s, okJ j' s) {l : List Tree} (hs : ∀ s ∈ l, s ∈ t.kids) : Hid (∀ s ∈ l, JC W0 N b rec j' d s) :=
  zm fun s m => zk h j' d _ (need_kid (hs s m) _ _) (ho s) (.inl rfl) (.inr (.inl (hs s m)))
theorem RHk1 {W0 : World} {N b : Nat} {rec : PrJ → Nat → Tree → List UInt8} {j : PrJ} {d : Nat} {t : Tree} (h : Hid (RH W0 N b rec j d t)) (j' : PrJ) (ho : ∀ s, okJ j' s) {l : List Tree} (hs : ∀ s ∈ l, s ∈ t.kids) : Hid (∀ s ∈ l, JC W0 N b rec j' (d + 1) s) :=
  zm fun s m => zk h j' (d + 1) _ (need_kid (hs s m) _ _) (ho s) (.inr ⟨rfl, sz_mem (hs s m)⟩) (.inr (.inl (hs s m)))
theorem mem_drop1 {t : Tree} : ∀ s ∈ t.kids.drop 1, s ∈ t.kids := fun _ h => List.mem_of_mem_drop h
theorem mem_init {t : Tree} {m : Nat} : ∀ s ∈ t.kids.take m, s ∈ t.kids := fun _ h => List.mem_of_mem_take h
theorem typed_step {W0 : World} {N b : Nat} (hN : N = W0.heap.size) (digits : Int → List UInt8) (rec : PrJ → Nat → Tree → List UInt8) (d : Nat) (hd : d < 1152921504606846976) (t : Tree) (hr : RH W0 N b rec .typed d t) (ho : okJ .typed t) : JC W0 N b (ym digits rec) .typed d t := by
  intro kd tx nm ps ks ao cp e hK bs w hB hp hl
  subst e
  have HR := zm hr
  clear hr
  have hkk : (Tree.mk kd tx nm ps ks).kind ≠ 0 := ho
  simp only [ym, sS, sT, Int.reduceEq, reduceIte] at hl ⊢
  have HL := zm hl
  have HV : Hid (PV W0 _ kd tx nm ps ao ks.length cp) := zm ⟨ks, rfl, rfl, hK⟩
  have HS := ye.start (bs := bs) kd tx nm ps ao ks.length cp hN hB hp
  have ht : tx.length ≤ 1099511627776 := pl
  have hc5 : ¬ 9223372036854775807 < tx.length + 1 := om
  clear hp hB hK hl
  simp only [JF, JA]
  go_enter Tryz.func39, Tryz.ntmps39
  (go_wp2; go_region_held2 (fun w' => w'.cell? ⟨w.heap.size, 1, none⟩ = some (.string ⟨tx.toArray⟩)) (go_keep) (first | (go_at_call 36; (try simp only [ByteArray.mk_append_mk]); with_reducible refine (ye.s (ye.dr HS) pl).mono ?_; (try clear cc); clear HS; rintro e wn ⟨⟨v, rfl⟩, HS⟩; have cc := ye.cells HS)))
  (go_wp2_with fail; with_reducible refine (ye.part 0 HS HV dc).mono ?_; (try clear cc); clear HS; rintro e wn ⟨⟨kd2, tx2, nm2, ps2, ao2, n2, cp2, rfl, HP⟩, HS⟩; have cc := ye.cells HS)
  (have HJ := ((zk (RHp HR .wtype hkk 0 trivial)).pv HP); simp only [JF, JA] at HJ; go_wp2_with fail; with_reducible refine (ye.call HS HJ pl).mono ?_; (try clear cc); clear HS HJ; rintro e wn ⟨rfl, HS⟩; have cc := ye.cells HS)
  exact pe
theorem field_step {W0 : World} {N b : Nat} (hN : N = W0.heap.size) (digits : Int → List UInt8) (rec : PrJ → Nat → Tree → List UInt8) (d : Nat) (hd : d < 1152921504606846976) (t : Tree) (hr : RH W0 N b rec .field d t) (ho : okJ .field t) : JC W0 N b (ym digits rec) .field d t := by
  intro kd tx nm ps ks ao cp e hK bs w hB hp hl
  subst e
  have HR := zm hr
  clear hr
  by_cases h5 : kd = 5
  · subst h5
    have hkk : (Tree.mk 5 tx nm ps ks).kind ≠ 0 := by simp [Tree.kind]
    simp only [ym, sS, sT, Int.reduceEq, reduceIte] at hl ⊢
    have HL := zm hl
    have HV : Hid (PV W0 _ 5 tx nm ps ao ks.length cp) := zm ⟨ks, rfl, rfl, hK⟩
    have HS := ye.start (bs := bs) 5 tx nm ps ao ks.length cp hN hB hp
    clear hp hB hK hl
    simp only [JF, JA]
    go_enter Tryz.func38, Tryz.ntmps38
    (have HJ := ((zk (RHs HR .typed dc zM)).pv HV); simp only [JF, JA] at HJ; go_wp2_with fail; with_reducible refine (ye.call HS HJ pl).mono ?_; (try clear cc); clear HS HJ; rintro e wn ⟨rfl, HS⟩; have cc := ye.cells HS)
    exact pe
  simp only [ym, sS, sT, Int.reduceEq, reduceIte, h5] at hl ⊢
  have HL := zm hl
  have HV : Hid (PV W0 _ kd tx nm ps ao ks.length cp) := zm ⟨ks, rfl, rfl, hK⟩
  have HS := ye.start (bs := bs) kd tx nm ps ao ks.length cp hN hB hp
  clear hp hB hK hl
  simp only [JF, JA]
  go_enter Tryz.func38, Tryz.ntmps38
  (go_wp2_with fail; with_reducible refine (ye.unk HS pl).mono ?_; (try clear cc); clear HS; rintro e wn ⟨rfl, HS⟩; have cc := ye.cells HS)
  exact pe
theorem param_step {W0 : World} {N b : Nat} (hN : N = W0.heap.size) (digits : Int → List UInt8) (rec : PrJ → Nat → Tree → List UInt8) (d : Nat) (hd : d < 1152921504606846976) (t : Tree) (hr : RH W0 N b rec .param d t) (ho : okJ .param t) : JC W0 N b (ym digits rec) .param d t := by
  intro kd tx nm ps ks ao cp e hK bs w hB hp hl
  subst e
  have HR := zm hr
  clear hr
  by_cases h7 : kd = 7
  · subst h7
    have hkk : (Tree.mk 7 tx nm ps ks).kind ≠ 0 := by simp [Tree.kind]
    simp only [ym, sS, sT, Int.reduceEq, reduceIte] at hl ⊢
    have HL := zm hl
    have HV : Hid (PV W0 _ 7 tx nm ps ao ks.length cp) := zm ⟨ks, rfl, rfl, hK⟩
    have HS := ye.start (bs := bs) 7 tx nm ps ao ks.length cp hN hB hp
    clear hp hB hK hl
    simp only [JF, JA]
    go_enter Tryz.func86, Tryz.ntmps86
    (have HJ := ((zk (RHs HR .typed dc zM)).pv HV); simp only [JF, JA] at HJ; go_wp2_with fail; with_reducible refine (ye.call HS HJ pl).mono ?_; (try clear cc); clear HS HJ; rintro e wn ⟨rfl, HS⟩; have cc := ye.cells HS)
    exact pe
  simp only [ym, sS, sT, Int.reduceEq, reduceIte, h7] at hl ⊢
  have HL := zm hl
  have HV : Hid (PV W0 _ kd tx nm ps ao ks.length cp) := zm ⟨ks, rfl, rfl, hK⟩
  have HS := ye.start (bs := bs) kd tx nm ps ao ks.length cp hN hB hp
  clear hp hB hK hl
  simp only [JF, JA]
  go_enter Tryz.func86, Tryz.ntmps86
  (go_wp2_with fail; with_reducible refine (ye.unk HS pl).mono ?_; (try clear cc); clear HS; rintro e wn ⟨rfl, HS⟩; have cc := ye.cells HS)
  exact pe
theorem params_step {W0 : World} {N b : Nat} (hN : N = W0.heap.size) (digits : Int → List UInt8) (rec : PrJ → Nat → Tree → List UInt8) (d : Nat) (hd : d < 1152921504606846976) (t : Tree) (hr : RH W0 N b rec .params d t) (ho : okJ .params t) : JC W0 N b (ym digits rec) .params d t := by
  intro kd tx nm ps ks ao cp e hK bs w hB hp hl
  subst e
  have HR := zm hr
  clear hr
  by_cases h6 : kd = 6
  · subst h6
    have hkk : (Tree.mk 6 tx nm ps ks).kind ≠ 0 := by simp [Tree.kind]
    simp only [ym, sS, sT, Int.reduceEq, reduceIte] at hl ⊢
    have HL := zm hl
    have HV : Hid (PV W0 _ 6 tx nm ps ao ks.length cp) := zm ⟨ks, rfl, rfl, hK⟩
    have HS := ye.start (bs := bs) 6 tx nm ps ao ks.length cp hN hB hp
    clear hp hB hK hl
    simp only [JF, JA]
    go_enter Tryz.func64, Tryz.ntmps64
    (have hpj : plainJ .param := fun _ _ => rfl; have hjf : JF .param = 86 := rfl; have hen : Ent 86 := ent_of 86 dc; have HU := (RHk HR .param (l := ks) (fun _ => trivial) (fun _ h => h)); have HQ := (PV.rv HV); go_wp2_with fail; with_reducible refine (ye.list .param HS HQ hpj hjf hen HU pl).mono ?_; clear hpj hjf hen HU HQ; (try clear cc); clear HS; rintro e wn ⟨rfl, HS⟩; have cc := ye.cells HS)
    exact pe
  simp only [ym, sS, sT, Int.reduceEq, reduceIte, h6] at hl ⊢
  have HL := zm hl
  have HV : Hid (PV W0 _ kd tx nm ps ao ks.length cp) := zm ⟨ks, rfl, rfl, hK⟩
  have HS := ye.start (bs := bs) kd tx nm ps ao ks.length cp hN hB hp
  clear hp hB hK hl
  simp only [JF, JA]
  go_enter Tryz.func64, Tryz.ntmps64
  (go_wp2_with fail; with_reducible refine (ye.unk HS pl).mono ?_; (try clear cc); clear HS; rintro e wn ⟨rfl, HS⟩; have cc := ye.cells HS)
  exact pe
theorem function_step {W0 : World} {N b : Nat} (hN : N = W0.heap.size) (digits : Int → List UInt8) (rec : PrJ → Nat → Tree → List UInt8) (d : Nat) (hd : d < 1152921504606846976) (t : Tree) (hr : RH W0 N b rec .function d t) (ho : okJ .function t) : JC W0 N b (ym digits rec) .function d t := by
  intro kd tx nm ps ks ao cp e hK bs w hB hp hl
  subst e
  have HR := zm hr
  clear hr
  have hkk : (Tree.mk kd tx nm ps ks).kind ≠ 0 := ho
  simp only [ym, sS, sT, Int.reduceEq, reduceIte] at hl ⊢
  have HL := zm hl
  have HV : Hid (PV W0 _ kd tx nm ps ao ks.length cp) := zm ⟨ks, rfl, rfl, hK⟩
  have HS := ye.start (bs := bs) kd tx nm ps ao ks.length cp hN hB hp
  clear hp hB hK hl
  simp only [JF, JA]
  go_enter Tryz.func40, Tryz.ntmps40
  (go_wp2_with fail; with_reducible refine (ye.byte 40 HS dc pl).mono ?_; (try clear cc); clear HS; rintro e wn ⟨⟨v, rfl⟩, HS⟩; have cc := ye.cells HS)
  (go_wp2_with fail; with_reducible refine (ye.part 0 HS HV dc).mono ?_; (try clear cc); clear HS; rintro e wn ⟨⟨kd2, tx2, nm2, ps2, ao2, n2, cp2, rfl, HP⟩, HS⟩; have cc := ye.cells HS)
  (have HJ := ((zk (RHp HR .params hkk 0 trivial)).pv HP); simp only [JF, JA] at HJ; go_wp2_with fail; with_reducible refine (ye.call HS HJ pl).mono ?_; (try clear cc); clear HS HJ; rintro e wn ⟨rfl, HS⟩; have cc := ye.cells HS)
  (go_wp2_with fail; with_reducible refine (ye.byte 41 HS dc pl).mono ?_; (try clear cc); clear HS; rintro e wn ⟨⟨v, rfl⟩, HS⟩; have cc := ye.cells HS)
  (go_wp2_with fail; with_reducible refine (ye.part 1 HS HV dc).mono ?_; (try clear cc); clear HS; rintro e wn ⟨⟨kd2, tx2, nm2, ps2, ao2, n2, cp2, rfl, HP⟩, HS⟩; have cc := ye.cells HS)
  (have hpj : plainJ .wtype := fun _ _ => rfl; have hjf : JF .wtype = 62 := rfl; have hen : Ent 62 := ent_of 62 dc; have HU := (RHp HR .wtype hkk 1 trivial); go_wp2_with fail; with_reducible refine (ye.unl .wtype HS HP hpj hjf hen HU pl).mono ?_; clear hpj hjf hen HU; (try clear cc); clear HS; rintro e wn ⟨rfl, HS⟩; have cc := ye.cells HS)
  (go_wp2_with fail; with_reducible refine (ye.byte 32 HS dc pl).mono ?_; (try clear cc); clear HS; rintro e wn ⟨⟨v, rfl⟩, HS⟩; have cc := ye.cells HS)
  (go_wp2_with fail; with_reducible refine (ye.part 2 HS HV dc).mono ?_; (try clear cc); clear HS; rintro e wn ⟨⟨kd2, tx2, nm2, ps2, ao2, n2, cp2, rfl, HP⟩, HS⟩; have cc := ye.cells HS)
  (have HJ := ((zk (RHp HR .block hkk 2 trivial)).pv HP); simp only [JF, JA] at HJ; go_wp2_with fail; with_reducible refine (ye.call HS HJ pl).mono ?_; (try clear cc); clear HS HJ; rintro e wn ⟨rfl, HS⟩; have cc := ye.cells HS)
  exact pe
theorem block_step {W0 : World} {N b : Nat} (hN : N = W0.heap.size) (digits : Int → List UInt8) (rec : PrJ → Nat → Tree → List UInt8) (d : Nat) (hd : d < 1152921504606846976) (t : Tree) (hr : RH W0 N b rec .block d t) (ho : okJ .block t) : JC W0 N b (ym digits rec) .block d t := by
  intro kd tx nm ps ks ao cp e hK bs w hB hp hl
  subst e
  have HR := zm hr
  clear hr
  by_cases h16 : kd = 16
  · subst h16
    have hkk : (Tree.mk 16 tx nm ps ks).kind ≠ 0 := by simp [Tree.kind]
    simp only [ym, sS, sT, Int.reduceEq, reduceIte] at hl ⊢
    have HL := zm hl
    have HV : Hid (PV W0 _ 16 tx nm ps ao ks.length cp) := zm ⟨ks, rfl, rfl, hK⟩
    have HS := ye.start (bs := bs) 16 tx nm ps ao ks.length cp hN hB hp
    clear hp hB hK hl
    simp only [JF, JA]
    go_enter Tryz.func66, Tryz.ntmps66
    (go_wp2_with fail; (try simp only [ByteArray.mk_append_mk]); with_reducible refine (ye.s HS pl).mono ?_; (try clear cc); clear HS; rintro e wn ⟨⟨v, rfl⟩, HS⟩; have cc := ye.cells HS)
    (have hpj : plainJ .stmt := fun _ _ => rfl; have hjf : JF .stmt = 88 := rfl; have hen : Ent 88 := ent_of 88 dc; have HU := (RHk1 HR .stmt (l := ks) (fun _ => trivial) (fun _ h => h)); have HQ := (PV.rv HV); go_wp2_with fail; with_reducible refine (ye.lines .stmt HS HQ hpj hjf hen HU hd pl).mono ?_; clear hpj hjf hen HU HQ; (try clear cc); clear HS; rintro e wn ⟨rfl, HS⟩; have cc := ye.cells HS)
    (go_wp2_with fail; with_reducible refine (ye.tabs HS pl).mono ?_; (try clear cc); clear HS; rintro e wn ⟨rfl, HS⟩; have cc := ye.cells HS)
    (go_wp2_with fail; with_reducible refine (ye.byte 125 HS dc pl).mono ?_; (try clear cc); clear HS; rintro e wn ⟨⟨v, rfl⟩, HS⟩; have cc := ye.cells HS)
    exact pe
  simp only [ym, sS, sT, Int.reduceEq, reduceIte, h16] at hl ⊢
  have HL := zm hl
  have HV : Hid (PV W0 _ kd tx nm ps ao ks.length cp) := zm ⟨ks, rfl, rfl, hK⟩
  have HS := ye.start (bs := bs) kd tx nm ps ao ks.length cp hN hB hp
  clear hp hB hK hl
  simp only [JF, JA]
  go_enter Tryz.func66, Tryz.ntmps66
  (go_wp2_with fail; with_reducible refine (ye.unk HS pl).mono ?_; (try clear cc); clear HS; rintro e wn ⟨rfl, HS⟩; have cc := ye.cells HS)
  exact pe
end Go.Proofs.YtheknbfbneghgaaGreatDoor.Pp
set_option maxHeartbeats 8000000
set_option maxRecDepth 100000
namespace Go.Proofs.YtheknbfbneghgaaGreatDoor.Pp
open Go.RowKit Go.Proofs.YtheknbfbneghgaaGreatDoor.Lx Go.Proofs.YtheknbfbneghgaaGreatDoor.Px
theorem decl_step {W0 : World} {N b : Nat} (hN : N = W0.heap.size) (digits : Int → List UInt8) (rec : PrJ → Nat → Tree → List UInt8) (d : Nat) (hd : d < 1152921504606846976) (t : Tree) (hr : RH W0 N b rec .decl d t) (ho : okJ .decl t) : JC W0 N b (ym digits rec) .decl d t := by
  intro kd tx nm ps ks ao cp e hK bs w hB hp hl
  subst e
  have HR := zm hr
  clear hr
  by_cases h2 : kd = 2
  · subst h2
    have hkk : (Tree.mk 2 tx nm ps ks).kind ≠ 0 := by simp [Tree.kind]
    simp only [ym, sS, sT, Int.reduceEq, reduceIte] at hl ⊢
    have HL := zm hl
    have HV : Hid (PV W0 _ 2 tx nm ps ao ks.length cp) := zm ⟨ks, rfl, rfl, hK⟩
    have HS := ye.start (bs := bs) 2 tx nm ps ao ks.length cp hN hB hp
    have ht : tx.length ≤ 1099511627776 := pl
    have hc5 : ¬ 9223372036854775807 < 5 + tx.length := om
    have hc6 : ¬ 9223372036854775807 < 5 + tx.length + 10 := om
    clear hp hB hK hl
    simp only [JF, JA]
    go_enter Tryz.func25, Tryz.ntmps25
    (go_wp2; go_region_held2 (fun w' => w'.cell? ⟨w.heap.size, 1, none⟩ = some (.string ⟨tx.toArray⟩)) (go_keep) (first | (go_at_call 36; (try simp only [ByteArray.mk_append_mk]); with_reducible refine (ye.s (ye.dr HS) pl).mono ?_; (try clear cc); clear HS; rintro e wn ⟨⟨v, rfl⟩, HS⟩; have cc := ye.cells HS)))
    (have hpj : plainJ .field := fun _ _ => rfl; have hjf : JF .field = 38 := rfl; have hen : Ent 38 := ent_of 38 dc; have HU := (RHk1 HR .field (l := ks) (fun _ => trivial) (fun _ h => h)); have HQ := (PV.rv HV); go_wp2_with fail; with_reducible refine (ye.lines .field HS HQ hpj hjf hen HU hd pl).mono ?_; clear hpj hjf hen HU HQ; (try clear cc); clear HS; rintro e wn ⟨rfl, HS⟩; have cc := ye.cells HS)
    (go_wp2_with fail; with_reducible refine (ye.byte 125 HS dc pl).mono ?_; (try clear cc); clear HS; rintro e wn ⟨⟨v, rfl⟩, HS⟩; have cc := ye.cells HS)
    exact pe
  by_cases h3 : kd = 3
  · subst h3
    have hkk : (Tree.mk 3 tx nm ps ks).kind ≠ 0 := by simp [Tree.kind]
    simp only [ym, sS, sT, Int.reduceEq, reduceIte] at hl ⊢
    have HL := zm hl
    have HV : Hid (PV W0 _ 3 tx nm ps ao ks.length cp) := zm ⟨ks, rfl, rfl, hK⟩
    have HS := ye.start (bs := bs) 3 tx nm ps ao ks.length cp hN hB hp
    clear hp hB hK hl
    simp only [JF, JA]
    go_enter Tryz.func25, Tryz.ntmps25
    (go_wp2_with fail; (try simp only [ByteArray.mk_append_mk]); with_reducible refine (ye.s HS pl).mono ?_; (try clear cc); clear HS; rintro e wn ⟨⟨v, rfl⟩, HS⟩; have cc := ye.cells HS)
    (have HJ := ((zk (RHs HR .typed dc zM)).pv HV); simp only [JF, JA] at HJ; go_wp2_with fail; with_reducible refine (ye.call HS HJ pl).mono ?_; (try clear cc); clear HS HJ; rintro e wn ⟨rfl, HS⟩; have cc := ye.cells HS)
    exact pe
  by_cases h4 : kd = 4
  · subst h4
    have hkk : (Tree.mk 4 tx nm ps ks).kind ≠ 0 := by simp [Tree.kind]
    simp only [ym, sS, sT, Int.reduceEq, reduceIte] at hl ⊢
    have HL := zm hl
    have HV : Hid (PV W0 _ 4 tx nm ps ao ks.length cp) := zm ⟨ks, rfl, rfl, hK⟩
    have HS := ye.start (bs := bs) 4 tx nm ps ao ks.length cp hN hB hp
    have ht : tx.length ≤ 1099511627776 := pl
    have hc5 : ¬ 9223372036854775807 < 5 + tx.length := om
    clear hp hB hK hl
    simp only [JF, JA]
    go_enter Tryz.func25, Tryz.ntmps25
    (go_wp2; go_region_held2 (fun w' => w'.cell? ⟨w.heap.size, 1, none⟩ = some (.string ⟨tx.toArray⟩)) (go_keep) (first | (go_at_call 36; (try simp only [ByteArray.mk_append_mk]); with_reducible refine (ye.s (ye.dr HS) pl).mono ?_; (try clear cc); clear HS; rintro e wn ⟨⟨v, rfl⟩, HS⟩; have cc := ye.cells HS)))
    (have HJ := ((zk (RHs HR .function dc zM)).pv HV); simp only [JF, JA] at HJ; go_wp2_with fail; with_reducible refine (ye.call HS HJ pl).mono ?_; (try clear cc); clear HS HJ; rintro e wn ⟨rfl, HS⟩; have cc := ye.cells HS)
    exact pe
  simp only [ym, sS, sT, Int.reduceEq, reduceIte, h2, h3, h4] at hl ⊢
  have HL := zm hl
  have HV : Hid (PV W0 _ kd tx nm ps ao ks.length cp) := zm ⟨ks, rfl, rfl, hK⟩
  have HS := ye.start (bs := bs) kd tx nm ps ao ks.length cp hN hB hp
  clear hp hB hK hl
  simp only [JF, JA]
  go_enter Tryz.func25, Tryz.ntmps25
  (go_wp2_with fail; with_reducible refine (ye.unk HS pl).mono ?_; (try clear cc); clear HS; rintro e wn ⟨rfl, HS⟩; have cc := ye.cells HS)
  exact pe
theorem wtype_step {W0 : World} {N b : Nat} (hN : N = W0.heap.size) (digits : Int → List UInt8) (rec : PrJ → Nat → Tree → List UInt8) (d : Nat) (hd : d < 1152921504606846976) (t : Tree) (hr : RH W0 N b rec .wtype d t) (ho : okJ .wtype t) : JC W0 N b (ym digits rec) .wtype d t := by
  intro kd tx nm ps ks ao cp e hK bs w hB hp hl
  subst e
  have HR := zm hr
  clear hr
  by_cases h9 : kd = 9
  · subst h9
    have hkk : (Tree.mk 9 tx nm ps ks).kind ≠ 0 := by simp [Tree.kind]
    simp only [ym, sS, sT, Int.reduceEq, reduceIte] at hl ⊢
    have HL := zm hl
    have HV : Hid (PV W0 _ 9 tx nm ps ao ks.length cp) := zm ⟨ks, rfl, rfl, hK⟩
    have HS := ye.start (bs := bs) 9 tx nm ps ao ks.length cp hN hB hp
    clear hp hB hK hl
    simp only [JF, JA]
    go_enter Tryz.func62, Tryz.ntmps62
    (go_wp2_with fail; (try simp only [ByteArray.mk_append_mk]); with_reducible refine (ye.s HS pl).mono ?_; (try clear cc); clear HS; rintro e wn ⟨⟨v, rfl⟩, HS⟩; have cc := ye.cells HS)
    exact pe
  by_cases h10 : kd = 10
  · subst h10
    have hkk : (Tree.mk 10 tx nm ps ks).kind ≠ 0 := by simp [Tree.kind]
    simp only [ym, sS, sT, Int.reduceEq, reduceIte] at hl ⊢
    have HL := zm hl
    have HV : Hid (PV W0 _ 10 tx nm ps ao ks.length cp) := zm ⟨ks, rfl, rfl, hK⟩
    have HS := ye.start (bs := bs) 10 tx nm ps ao ks.length cp hN hB hp
    clear hp hB hK hl
    simp only [JF, JA]
    go_enter Tryz.func62, Tryz.ntmps62
    (go_wp2_with fail; (try simp only [ByteArray.mk_append_mk]); with_reducible refine (ye.s HS pl).mono ?_; (try clear cc); clear HS; rintro e wn ⟨⟨v, rfl⟩, HS⟩; have cc := ye.cells HS)
    exact pe
  by_cases h11 : kd = 11
  · subst h11
    have hkk : (Tree.mk 11 tx nm ps ks).kind ≠ 0 := by simp [Tree.kind]
    simp only [ym, sS, sT, Int.reduceEq, reduceIte] at hl ⊢
    have HL := zm hl
    have HV : Hid (PV W0 _ 11 tx nm ps ao ks.length cp) := zm ⟨ks, rfl, rfl, hK⟩
    have HS := ye.start (bs := bs) 11 tx nm ps ao ks.length cp hN hB hp
    clear hp hB hK hl
    simp only [JF, JA]
    go_enter Tryz.func62, Tryz.ntmps62
    (go_wp2_with fail; (try simp only [ByteArray.mk_append_mk]); with_reducible refine (ye.s HS pl).mono ?_; (try clear cc); clear HS; rintro e wn ⟨⟨v, rfl⟩, HS⟩; have cc := ye.cells HS)
    exact pe
  by_cases h12 : kd = 12
  · subst h12
    have hkk : (Tree.mk 12 tx nm ps ks).kind ≠ 0 := by simp [Tree.kind]
    simp only [ym, sS, sT, Int.reduceEq, reduceIte] at hl ⊢
    have HL := zm hl
    have HV : Hid (PV W0 _ 12 tx nm ps ao ks.length cp) := zm ⟨ks, rfl, rfl, hK⟩
    have HS := ye.start (bs := bs) 12 tx nm ps ao ks.length cp hN hB hp
    have ht : tx.length ≤ 1099511627776 := pl
    have hc5 : ¬ 9223372036854775807 < 1 + tx.length := om
    clear hp hB hK hl
    simp only [JF, JA]
    go_enter Tryz.func62, Tryz.ntmps62
    (go_wp2; go_region_held2 (fun w' => w'.cell? ⟨w.heap.size, 1, none⟩ = some (.string ⟨tx.toArray⟩)) (go_keep) (first | (go_at_call 36; (try simp only [ByteArray.mk_append_mk]); with_reducible refine (ye.s (ye.dr HS) pl).mono ?_; (try clear cc); clear HS; rintro e wn ⟨⟨v, rfl⟩, HS⟩; have cc := ye.cells HS)))
    exact pe
  by_cases h13 : kd = 13
  · subst h13
    have hkk : (Tree.mk 13 tx nm ps ks).kind ≠ 0 := by simp [Tree.kind]
    simp only [ym, sS, sT, Int.reduceEq, reduceIte] at hl ⊢
    have HL := zm hl
    have HV : Hid (PV W0 _ 13 tx nm ps ao ks.length cp) := zm ⟨ks, rfl, rfl, hK⟩
    have HS := ye.start (bs := bs) 13 tx nm ps ao ks.length cp hN hB hp
    clear hp hB hK hl
    simp only [JF, JA]
    go_enter Tryz.func62, Tryz.ntmps62
    (go_wp2_with fail; (try simp only [ByteArray.mk_append_mk]); with_reducible refine (ye.s HS pl).mono ?_; (try clear cc); clear HS; rintro e wn ⟨⟨v, rfl⟩, HS⟩; have cc := ye.cells HS)
    (go_wp2_with fail; with_reducible refine (ye.part 0 HS HV dc).mono ?_; (try clear cc); clear HS; rintro e wn ⟨⟨kd2, tx2, nm2, ps2, ao2, n2, cp2, rfl, HP⟩, HS⟩; have cc := ye.cells HS)
    (have HJ := ((zk (RHp HR .wtype hkk 0 trivial)).pv HP); simp only [JF, JA] at HJ; go_wp2_with fail; with_reducible refine (ye.call HS HJ pl).mono ?_; (try clear cc); clear HS HJ; rintro e wn ⟨rfl, HS⟩; have cc := ye.cells HS)
    exact pe
  by_cases h14 : kd = 14
  · subst h14
    have hkk : (Tree.mk 14 tx nm ps ks).kind ≠ 0 := by simp [Tree.kind]
    simp only [ym, sS, sT, Int.reduceEq, reduceIte] at hl ⊢
    have HL := zm hl
    have HV : Hid (PV W0 _ 14 tx nm ps ao ks.length cp) := zm ⟨ks, rfl, rfl, hK⟩
    have HS := ye.start (bs := bs) 14 tx nm ps ao ks.length cp hN hB hp
    clear hp hB hK hl
    simp only [JF, JA]
    go_enter Tryz.func62, Tryz.ntmps62
    (go_wp2_with fail; (try simp only [ByteArray.mk_append_mk]); with_reducible refine (ye.s HS pl).mono ?_; (try clear cc); clear HS; rintro e wn ⟨⟨v, rfl⟩, HS⟩; have cc := ye.cells HS)
    (go_wp2_with fail; with_reducible refine (ye.part 0 HS HV dc).mono ?_; (try clear cc); clear HS; rintro e wn ⟨⟨kd2, tx2, nm2, ps2, ao2, n2, cp2, rfl, HP⟩, HS⟩; have cc := ye.cells HS)
    (have HJ := ((zk (RHp HR .wtype hkk 0 trivial)).pv HP); simp only [JF, JA] at HJ; go_wp2_with fail; with_reducible refine (ye.call HS HJ pl).mono ?_; (try clear cc); clear HS HJ; rintro e wn ⟨rfl, HS⟩; have cc := ye.cells HS)
    exact pe
  by_cases h15 : kd = 15
  · subst h15
    have hkk : (Tree.mk 15 tx nm ps ks).kind ≠ 0 := by simp [Tree.kind]
    simp only [ym, sS, sT, Int.reduceEq, reduceIte] at hl ⊢
    have HL := zm hl
    have HV : Hid (PV W0 _ 15 tx nm ps ao ks.length cp) := zm ⟨ks, rfl, rfl, hK⟩
    have HS := ye.start (bs := bs) 15 tx nm ps ao ks.length cp hN hB hp
    clear hp hB hK hl
    simp only [JF, JA]
    go_enter Tryz.func62, Tryz.ntmps62
    (go_wp2_with fail; (try simp only [ByteArray.mk_append_mk]); with_reducible refine (ye.s HS pl).mono ?_; (try clear cc); clear HS; rintro e wn ⟨⟨v, rfl⟩, HS⟩; have cc := ye.cells HS)
    (go_wp2_with fail; with_reducible refine (ye.until_ HS HV).mono ?_; (try clear cc); clear HS; rintro e wn ⟨⟨ar, nr, cr, rfl, HR2⟩, HS⟩; have cc := ye.cells HS)
    (have hpj : plainJ .wtype := fun _ _ => rfl; have hjf : JF .wtype = 62 := rfl; have hen : Ent 62 := ent_of 62 dc; have HU := (RHk HR .wtype (l := ks.take (ks.length - 1)) (fun _ => trivial) (fun _ h => List.mem_of_mem_take h)); have HQ := HR2; go_wp2_with fail; with_reducible refine (ye.list .wtype HS HQ hpj hjf hen HU pl).mono ?_; clear hpj hjf hen HU HQ; (try clear cc); clear HS; rintro e wn ⟨rfl, HS⟩; have cc := ye.cells HS)
    (go_wp2_with fail; with_reducible refine (ye.byte 41 HS dc pl).mono ?_; (try clear cc); clear HS; rintro e wn ⟨⟨v, rfl⟩, HS⟩; have cc := ye.cells HS)
    (go_wp2_with fail; with_reducible refine (ye.last HS HV).mono ?_; (try clear cc); clear HS; rintro e wn ⟨⟨kd2, tx2, nm2, ps2, ao2, n2, cp2, rfl, HP⟩, HS⟩; have cc := ye.cells HS)
    (have hpj : plainJ .wtype := fun _ _ => rfl; have hjf : JF .wtype = 62 := rfl; have hen : Ent 62 := ent_of 62 dc; have HU := (RHp HR .wtype hkk (ks.length - 1) trivial); go_wp2_with fail; with_reducible refine (ye.unl .wtype HS HP hpj hjf hen HU pl).mono ?_; clear hpj hjf hen HU; (try clear cc); clear HS; rintro e wn ⟨rfl, HS⟩; have cc := ye.cells HS)
    exact pe
  simp only [ym, sS, sT, Int.reduceEq, reduceIte, h9, h10, h11, h12, h13, h14, h15] at hl ⊢
  have HL := zm hl
  have HV : Hid (PV W0 _ kd tx nm ps ao ks.length cp) := zm ⟨ks, rfl, rfl, hK⟩
  have HS := ye.start (bs := bs) kd tx nm ps ao ks.length cp hN hB hp
  clear hp hB hK hl
  simp only [JF, JA]
  go_enter Tryz.func62, Tryz.ntmps62
  (go_wp2_with fail; with_reducible refine (ye.unk HS pl).mono ?_; (try clear cc); clear HS; rintro e wn ⟨rfl, HS⟩; have cc := ye.cells HS)
  exact pe
end Go.Proofs.YtheknbfbneghgaaGreatDoor.Pp
set_option maxHeartbeats 8000000
set_option maxRecDepth 100000
namespace Go.Proofs.YtheknbfbneghgaaGreatDoor.Pp
open Go.RowKit Go.Proofs.YtheknbfbneghgaaGreatDoor.Lx Go.Proofs.YtheknbfbneghgaaGreatDoor.Px
theorem primary_step {W0 : World} {N b : Nat} (hN : N = W0.heap.size) (digits : Int → List UInt8) (rec : PrJ → Nat → Tree → List UInt8) (d : Nat) (hd : d < 1152921504606846976) (t : Tree) (hr : RH W0 N b rec .primary d t) (ho : okJ .primary t) : JC W0 N b (ym digits rec) .primary d t := by
  intro kd tx nm ps ks ao cp e hK bs w hB hp hl
  subst e
  have HR := zm hr
  clear hr
  by_cases h43 : kd = 43
  · subst h43
    have hkk : (Tree.mk 43 tx nm ps ks).kind ≠ 0 := by simp [Tree.kind]
    simp only [ym, sS, sT, Int.reduceEq, reduceIte] at hl ⊢
    have HL := zm hl
    have HV : Hid (PV W0 _ 43 tx nm ps ao ks.length cp) := zm ⟨ks, rfl, rfl, hK⟩
    have HS := ye.start (bs := bs) 43 tx nm ps ao ks.length cp hN hB hp
    clear hp hB hK hl
    simp only [JF, JA]
    go_enter Tryz.func108, Tryz.ntmps108
    (go_wp2_with fail; with_reducible refine (ye.part 0 HS HV dc).mono ?_; (try clear cc); clear HS; rintro e wn ⟨⟨kd2, tx2, nm2, ps2, ao2, n2, cp2, rfl, HP⟩, HS⟩; have cc := ye.cells HS)
    (have HJ := ((zk (RHp HR .expr hkk 0 trivial)).pv HP); simp only [JF, JA] at HJ; go_wp2_with fail; with_reducible refine (ye.call HS HJ pl).mono ?_; (try clear cc); clear HS HJ; rintro e wn ⟨rfl, HS⟩; have cc := ye.cells HS)
    (go_wp2_with fail; with_reducible refine (ye.byte 40 HS dc pl).mono ?_; (try clear cc); clear HS; rintro e wn ⟨⟨v, rfl⟩, HS⟩; have cc := ye.cells HS)
    (go_wp2_with fail; with_reducible refine (ye.from_ HS HV).mono ?_; (try clear cc); clear HS; rintro e wn ⟨⟨ar, nr, cr, rfl, HR2⟩, HS⟩; have cc := ye.cells HS)
    (have hpj : plainJ .expr := fun _ _ => rfl; have hjf : JF .expr = 93 := rfl; have hen : Ent 93 := ent_of 93 dc; have HU := (RHk HR .expr (l := ks.drop 1) (fun _ => trivial) (fun _ h => List.mem_of_mem_drop h)); have HQ := HR2; go_wp2_with fail; with_reducible refine (ye.list .expr HS HQ hpj hjf hen HU pl).mono ?_; clear hpj hjf hen HU HQ; (try clear cc); clear HS; rintro e wn ⟨rfl, HS⟩; have cc := ye.cells HS)
    (go_wp2_with fail; with_reducible refine (ye.byte 41 HS dc pl).mono ?_; (try clear cc); clear HS; rintro e wn ⟨⟨v, rfl⟩, HS⟩; have cc := ye.cells HS)
    exact pe
  by_cases h45 : kd = 45
  · subst h45
    have hkk : (Tree.mk 45 tx nm ps ks).kind ≠ 0 := by simp [Tree.kind]
    simp only [ym, sS, sT, Int.reduceEq, reduceIte] at hl ⊢
    have HL := zm hl
    have HV : Hid (PV W0 _ 45 tx nm ps ao ks.length cp) := zm ⟨ks, rfl, rfl, hK⟩
    have HS := ye.start (bs := bs) 45 tx nm ps ao ks.length cp hN hB hp
    clear hp hB hK hl
    simp only [JF, JA]
    go_enter Tryz.func108, Tryz.ntmps108
    (go_wp2_with fail; with_reducible refine (ye.part 0 HS HV dc).mono ?_; (try clear cc); clear HS; rintro e wn ⟨⟨kd2, tx2, nm2, ps2, ao2, n2, cp2, rfl, HP⟩, HS⟩; have cc := ye.cells HS)
    (have HJ := ((zk (RHp HR .expr hkk 0 trivial)).pv HP); simp only [JF, JA] at HJ; go_wp2_with fail; with_reducible refine (ye.call HS HJ pl).mono ?_; (try clear cc); clear HS HJ; rintro e wn ⟨rfl, HS⟩; have cc := ye.cells HS)
    (go_wp2_with fail; with_reducible refine (ye.byte 91 HS dc pl).mono ?_; (try clear cc); clear HS; rintro e wn ⟨⟨v, rfl⟩, HS⟩; have cc := ye.cells HS)
    (go_wp2_with fail; with_reducible refine (ye.part 1 HS HV dc).mono ?_; (try clear cc); clear HS; rintro e wn ⟨⟨kd2, tx2, nm2, ps2, ao2, n2, cp2, rfl, HP⟩, HS⟩; have cc := ye.cells HS)
    (have HJ := ((zk (RHp HR .expr hkk 1 trivial)).pv HP); simp only [JF, JA] at HJ; go_wp2_with fail; with_reducible refine (ye.call HS HJ pl).mono ?_; (try clear cc); clear HS HJ; rintro e wn ⟨rfl, HS⟩; have cc := ye.cells HS)
    (go_wp2_with fail; with_reducible refine (ye.byte 93 HS dc pl).mono ?_; (try clear cc); clear HS; rintro e wn ⟨⟨v, rfl⟩, HS⟩; have cc := ye.cells HS)
    exact pe
  by_cases h46 : kd = 46
  · subst h46
    have hkk : (Tree.mk 46 tx nm ps ks).kind ≠ 0 := by simp [Tree.kind]
    simp only [ym, sS, sT, Int.reduceEq, reduceIte] at hl ⊢
    have HL := zm hl
    have HV : Hid (PV W0 _ 46 tx nm ps ao ks.length cp) := zm ⟨ks, rfl, rfl, hK⟩
    have HS := ye.start (bs := bs) 46 tx nm ps ao ks.length cp hN hB hp
    clear hp hB hK hl
    simp only [JF, JA]
    go_enter Tryz.func108, Tryz.ntmps108
    (go_wp2_with fail; with_reducible refine (ye.part 0 HS HV dc).mono ?_; (try clear cc); clear HS; rintro e wn ⟨⟨kd2, tx2, nm2, ps2, ao2, n2, cp2, rfl, HP⟩, HS⟩; have cc := ye.cells HS)
    (have HJ := ((zk (RHp HR .expr hkk 0 trivial)).pv HP); simp only [JF, JA] at HJ; go_wp2_with fail; with_reducible refine (ye.call HS HJ pl).mono ?_; (try clear cc); clear HS HJ; rintro e wn ⟨rfl, HS⟩; have cc := ye.cells HS)
    (go_wp2_with fail; with_reducible refine (ye.byte 91 HS dc pl).mono ?_; (try clear cc); clear HS; rintro e wn ⟨⟨v, rfl⟩, HS⟩; have cc := ye.cells HS)
    (go_wp2_with fail; with_reducible refine (ye.part 1 HS HV dc).mono ?_; (try clear cc); clear HS; rintro e wn ⟨⟨kd2, tx2, nm2, ps2, ao2, n2, cp2, rfl, HP⟩, HS⟩; have cc := ye.cells HS)
    (have hpj : plainJ .expr := fun _ _ => rfl; have hjf : JF .expr = 93 := rfl; have hen : Ent 93 := ent_of 93 dc; have HU := (RHp HR .expr hkk 1 trivial); go_wp2_with fail; with_reducible refine (ye.unl .expr HS HP hpj hjf hen HU pl).mono ?_; clear hpj hjf hen HU; (try clear cc); clear HS; rintro e wn ⟨rfl, HS⟩; have cc := ye.cells HS)
    (go_wp2_with fail; with_reducible refine (ye.byte 58 HS dc pl).mono ?_; (try clear cc); clear HS; rintro e wn ⟨⟨v, rfl⟩, HS⟩; have cc := ye.cells HS)
    (go_wp2_with fail; with_reducible refine (ye.part 2 HS HV dc).mono ?_; (try clear cc); clear HS; rintro e wn ⟨⟨kd2, tx2, nm2, ps2, ao2, n2, cp2, rfl, HP⟩, HS⟩; have cc := ye.cells HS)
    (have hpj : plainJ .expr := fun _ _ => rfl; have hjf : JF .expr = 93 := rfl; have hen : Ent 93 := ent_of 93 dc; have HU := (RHp HR .expr hkk 2 trivial); go_wp2_with fail; with_reducible refine (ye.unl .expr HS HP hpj hjf hen HU pl).mono ?_; clear hpj hjf hen HU; (try clear cc); clear HS; rintro e wn ⟨rfl, HS⟩; have cc := ye.cells HS)
    (go_wp2_with fail; with_reducible refine (ye.byte 93 HS dc pl).mono ?_; (try clear cc); clear HS; rintro e wn ⟨⟨v, rfl⟩, HS⟩; have cc := ye.cells HS)
    exact pe
  by_cases h47 : kd = 47
  · subst h47
    have hkk : (Tree.mk 47 tx nm ps ks).kind ≠ 0 := by simp [Tree.kind]
    simp only [ym, sS, sT, Int.reduceEq, reduceIte] at hl ⊢
    have HL := zm hl
    have HV : Hid (PV W0 _ 47 tx nm ps ao ks.length cp) := zm ⟨ks, rfl, rfl, hK⟩
    have HS := ye.start (bs := bs) 47 tx nm ps ao ks.length cp hN hB hp
    have ht : tx.length ≤ 1099511627776 := pl
    have hc5 : ¬ 9223372036854775807 < 1 + tx.length := om
    clear hp hB hK hl
    simp only [JF, JA]
    go_enter Tryz.func108, Tryz.ntmps108
    (go_wp2_with fail; with_reducible refine (ye.part 0 HS HV dc).mono ?_; (try clear cc); clear HS; rintro e wn ⟨⟨kd2, tx2, nm2, ps2, ao2, n2, cp2, rfl, HP⟩, HS⟩; have cc := ye.cells HS)
    (have HJ := ((zk (RHp HR .expr hkk 0 trivial)).pv HP); simp only [JF, JA] at HJ; go_wp2_with fail; with_reducible refine (ye.call HS HJ pl).mono ?_; (try clear cc); clear HS HJ; rintro e wn ⟨rfl, HS⟩; have cc := ye.cells HS)
    (go_wp2; go_region_held2 (fun w' => w'.cell? ⟨w.heap.size, 1, none⟩ = some (.string ⟨tx.toArray⟩)) (go_keep) (first | (go_at_call 36; (try simp only [ByteArray.mk_append_mk]); with_reducible refine (ye.s (ye.dr HS) pl).mono ?_; (try clear cc); clear HS; rintro e wn ⟨⟨v, rfl⟩, HS⟩; have cc := ye.cells HS)))
    exact pe
  simp only [ym, sS, sT, Int.reduceEq, reduceIte, h43, h45, h46, h47] at hl ⊢
  have HL := zm hl
  have HV : Hid (PV W0 _ kd tx nm ps ao ks.length cp) := zm ⟨ks, rfl, rfl, hK⟩
  have HS := ye.start (bs := bs) kd tx nm ps ao ks.length cp hN hB hp
  clear hp hB hK hl
  simp only [JF, JA]
  go_enter Tryz.func108, Tryz.ntmps108
  (go_wp2_with fail; with_reducible refine (ye.unk HS pl).mono ?_; (try clear cc); clear HS; rintro e wn ⟨rfl, HS⟩; have cc := ye.cells HS)
  exact pe
theorem initial_step {W0 : World} {N b : Nat} (hN : N = W0.heap.size) (digits : Int → List UInt8) (rec : PrJ → Nat → Tree → List UInt8) (d : Nat) (hd : d < 1152921504606846976) (t : Tree) (hr : RH W0 N b rec .initial d t) (ho : okJ .initial t) : JC W0 N b (ym digits rec) .initial d t := by
  intro kd tx nm ps ks ao cp e hK bs w hB hp hl
  subst e
  have HR := zm hr
  clear hr
  by_cases h5 : kd = 5
  · subst h5
    have hkk : (Tree.mk 5 tx nm ps ks).kind ≠ 0 := by simp [Tree.kind]
    simp only [ym, sS, sT, Int.reduceEq, reduceIte] at hl ⊢
    have HL := zm hl
    have HV : Hid (PV W0 _ 5 tx nm ps ao ks.length cp) := zm ⟨ks, rfl, rfl, hK⟩
    have HS := ye.start (bs := bs) 5 tx nm ps ao ks.length cp hN hB hp
    have ht : tx.length ≤ 1099511627776 := pl
    have hc5 : ¬ 9223372036854775807 < tx.length + 2 := om
    clear hp hB hK hl
    simp only [JF, JA]
    go_enter Tryz.func106, Tryz.ntmps106
    (go_wp2; go_region_held2 (fun w' => w'.cell? ⟨w.heap.size, 1, none⟩ = some (.string ⟨tx.toArray⟩)) (go_keep) (first | (go_at_call 36; (try simp only [ByteArray.mk_append_mk]); with_reducible refine (ye.s (ye.dr HS) pl).mono ?_; (try clear cc); clear HS; rintro e wn ⟨⟨v, rfl⟩, HS⟩; have cc := ye.cells HS)))
    (go_wp2_with fail; with_reducible refine (ye.part 0 HS HV dc).mono ?_; (try clear cc); clear HS; rintro e wn ⟨⟨kd2, tx2, nm2, ps2, ao2, n2, cp2, rfl, HP⟩, HS⟩; have cc := ye.cells HS)
    (have HJ := ((zk (RHp HR .expr hkk 0 trivial)).pv HP); simp only [JF, JA] at HJ; go_wp2_with fail; with_reducible refine (ye.call HS HJ pl).mono ?_; (try clear cc); clear HS HJ; rintro e wn ⟨rfl, HS⟩; have cc := ye.cells HS)
    exact pe
  simp only [ym, sS, sT, Int.reduceEq, reduceIte, h5] at hl ⊢
  have HL := zm hl
  have HV : Hid (PV W0 _ kd tx nm ps ao ks.length cp) := zm ⟨ks, rfl, rfl, hK⟩
  have HS := ye.start (bs := bs) kd tx nm ps ao ks.length cp hN hB hp
  clear hp hB hK hl
  simp only [JF, JA]
  go_enter Tryz.func106, Tryz.ntmps106
  (go_wp2_with fail; with_reducible refine (ye.unk HS pl).mono ?_; (try clear cc); clear HS; rintro e wn ⟨rfl, HS⟩; have cc := ye.cells HS)
  exact pe
theorem pointed_step {W0 : World} {N b : Nat} (hN : N = W0.heap.size) (digits : Int → List UInt8) (rec : PrJ → Nat → Tree → List UInt8) (d : Nat) (hd : d < 1152921504606846976) (t : Tree) (hr : RH W0 N b rec .pointed d t) (ho : okJ .pointed t) : JC W0 N b (ym digits rec) .pointed d t := by
  intro kd tx nm ps ks ao cp e hK bs w hB hp hl
  subst e
  have HR := zm hr
  clear hr
  by_cases h12 : kd = 12
  · subst h12
    have hkk : (Tree.mk 12 tx nm ps ks).kind ≠ 0 := by simp [Tree.kind]
    simp only [ym, sS, sT, Int.reduceEq, reduceIte] at hl ⊢
    have HL := zm hl
    have HV : Hid (PV W0 _ 12 tx nm ps ao ks.length cp) := zm ⟨ks, rfl, rfl, hK⟩
    have HS := ye.start (bs := bs) 12 tx nm ps ao ks.length cp hN hB hp
    clear hp hB hK hl
    simp only [JF, JA]
    go_enter Tryz.func124, Tryz.ntmps124
    (go_wp2; go_region_held2 (fun w' => w'.cell? ⟨w.heap.size, 1, none⟩ = some (.string ⟨tx.toArray⟩)) (go_keep) (first | (go_at_call 36; (try simp only [ByteArray.mk_append_mk]); with_reducible refine (ye.s (ye.dr HS) pl).mono ?_; (try clear cc); clear HS; rintro e wn ⟨⟨v, rfl⟩, HS⟩; have cc := ye.cells HS)))
    exact pe
  simp only [ym, sS, sT, Int.reduceEq, reduceIte, h12] at hl ⊢
  have HL := zm hl
  have HV : Hid (PV W0 _ kd tx nm ps ao ks.length cp) := zm ⟨ks, rfl, rfl, hK⟩
  have HS := ye.start (bs := bs) kd tx nm ps ao ks.length cp hN hB hp
  clear hp hB hK hl
  simp only [JF, JA]
  go_enter Tryz.func124, Tryz.ntmps124
  (go_wp2_with fail; with_reducible refine (ye.unk HS pl).mono ?_; (try clear cc); clear HS; rintro e wn ⟨rfl, HS⟩; have cc := ye.cells HS)
  exact pe
end Go.Proofs.YtheknbfbneghgaaGreatDoor.Pp
set_option maxHeartbeats 8000000
set_option maxRecDepth 100000
namespace Go.Proofs.YtheknbfbneghgaaGreatDoor.Pp
open Go.RowKit Go.Proofs.YtheknbfbneghgaaGreatDoor.Lx Go.Proofs.YtheknbfbneghgaaGreatDoor.Px
theorem simple_step {W0 : World} {N b : Nat} (hN : N = W0.heap.size) (digits : Int → List UInt8) (rec : PrJ → Nat → Tree → List UInt8) (d : Nat) (hd : d < 1152921504606846976) (t : Tree) (hr : RH W0 N b rec .simple d t) (ho : okJ .simple t) : JC W0 N b (ym digits rec) .simple d t := by
  intro kd tx nm ps ks ao cp e hK bs w hB hp hl
  subst e
  have HR := zm hr
  clear hr
  by_cases h17 : kd = 17
  · subst h17
    have hkk : (Tree.mk 17 tx nm ps ks).kind ≠ 0 := by simp [Tree.kind]
    simp only [ym, sS, sT, Int.reduceEq, reduceIte] at hl ⊢
    have HL := zm hl
    have HV : Hid (PV W0 _ 17 tx nm ps ao ks.length cp) := zm ⟨ks, rfl, rfl, hK⟩
    have HS := ye.start (bs := bs) 17 tx nm ps ao ks.length cp hN hB hp
    have ht : tx.length ≤ 1099511627776 := pl
    have hc5 : ¬ 9223372036854775807 < tx.length + 4 := om
    clear hp hB hK hl
    simp only [JF, JA]
    go_enter Tryz.func99, Tryz.ntmps99
    (go_wp2; go_region_held2 (fun w' => w'.cell? ⟨w.heap.size, 1, none⟩ = some (.string ⟨tx.toArray⟩)) (go_keep) (first | (go_at_call 36; (try simp only [ByteArray.mk_append_mk]); with_reducible refine (ye.s (ye.dr HS) pl).mono ?_; (try clear cc); clear HS; rintro e wn ⟨⟨v, rfl⟩, HS⟩; have cc := ye.cells HS)))
    (go_wp2_with fail; with_reducible refine (ye.part 0 HS HV dc).mono ?_; (try clear cc); clear HS; rintro e wn ⟨⟨kd2, tx2, nm2, ps2, ao2, n2, cp2, rfl, HP⟩, HS⟩; have cc := ye.cells HS)
    (have HJ := ((zk (RHp HR .expr hkk 0 trivial)).pv HP); simp only [JF, JA] at HJ; go_wp2_with fail; with_reducible refine (ye.call HS HJ pl).mono ?_; (try clear cc); clear HS HJ; rintro e wn ⟨rfl, HS⟩; have cc := ye.cells HS)
    exact pe
  by_cases h19 : kd = 19
  · subst h19
    have hkk : (Tree.mk 19 tx nm ps ks).kind ≠ 0 := by simp [Tree.kind]
    simp only [ym, sS, sT, Int.reduceEq, reduceIte] at hl ⊢
    have HL := zm hl
    have HV : Hid (PV W0 _ 19 tx nm ps ao ks.length cp) := zm ⟨ks, rfl, rfl, hK⟩
    have HS := ye.start (bs := bs) 19 tx nm ps ao ks.length cp hN hB hp
    clear hp hB hK hl
    simp only [JF, JA]
    go_enter Tryz.func99, Tryz.ntmps99
    (have HJ := ((zk (RHr HR (.both tx) (by simp [rnk]) zM)).pv HV); simp only [JF, JA] at HJ; go_wp2_with fail; with_reducible refine (ye.call HS HJ pl).mono ?_; (try clear cc); clear HS HJ; rintro e wn ⟨rfl, HS⟩; have cc := ye.cells HS)
    exact pe
  by_cases h20 : kd = 20
  · subst h20
    have hkk : (Tree.mk 20 tx nm ps ks).kind ≠ 0 := by simp [Tree.kind]
    simp only [ym, sS, sT, Int.reduceEq, reduceIte] at hl ⊢
    have HL := zm hl
    have HV : Hid (PV W0 _ 20 tx nm ps ao ks.length cp) := zm ⟨ks, rfl, rfl, hK⟩
    have HS := ye.start (bs := bs) 20 tx nm ps ao ks.length cp hN hB hp
    clear hp hB hK hl
    simp only [JF, JA]
    go_enter Tryz.func99, Tryz.ntmps99
    (go_wp2_with fail; with_reducible refine (ye.part 0 HS HV dc).mono ?_; (try clear cc); clear HS; rintro e wn ⟨⟨kd2, tx2, nm2, ps2, ao2, n2, cp2, rfl, HP⟩, HS⟩; have cc := ye.cells HS)
    (have HJ := ((zk (RHp HR .expr hkk 0 trivial)).pv HP); simp only [JF, JA] at HJ; go_wp2_with fail; with_reducible refine (ye.call HS HJ pl).mono ?_; (try clear cc); clear HS HJ; rintro e wn ⟨rfl, HS⟩; have cc := ye.cells HS)
    (go_wp2; go_region_held2 (fun w' => w'.cell? ⟨w.heap.size, 1, none⟩ = some (.string ⟨tx.toArray⟩)) (go_keep) (first | (go_at_call 36; (try simp only [ByteArray.mk_append_mk]); with_reducible refine (ye.s (ye.dr HS) pl).mono ?_; (try clear cc); clear HS; rintro e wn ⟨⟨v, rfl⟩, HS⟩; have cc := ye.cells HS)))
    exact pe
  by_cases h33 : kd = 33
  · subst h33
    have hkk : (Tree.mk 33 tx nm ps ks).kind ≠ 0 := by simp [Tree.kind]
    simp only [ym, sS, sT, Int.reduceEq, reduceIte] at hl ⊢
    have HL := zm hl
    have HV : Hid (PV W0 _ 33 tx nm ps ao ks.length cp) := zm ⟨ks, rfl, rfl, hK⟩
    have HS := ye.start (bs := bs) 33 tx nm ps ao ks.length cp hN hB hp
    clear hp hB hK hl
    simp only [JF, JA]
    go_enter Tryz.func99, Tryz.ntmps99
    (have HJ := ((zk (RHr HR (.both [60, 45]) (by simp [rnk]) zM)).pv HV); simp only [JF, JA] at HJ; go_wp2_with fail; with_reducible refine (ye.call HS HJ pl).mono ?_; (try clear cc); clear HS HJ; rintro e wn ⟨rfl, HS⟩; have cc := ye.cells HS)
    exact pe
  by_cases h34 : kd = 34
  · subst h34
    have hkk : (Tree.mk 34 tx nm ps ks).kind ≠ 0 := by simp [Tree.kind]
    simp only [ym, sS, sT, Int.reduceEq, reduceIte] at hl ⊢
    have HL := zm hl
    have HV : Hid (PV W0 _ 34 tx nm ps ao ks.length cp) := zm ⟨ks, rfl, rfl, hK⟩
    have HS := ye.start (bs := bs) 34 tx nm ps ao ks.length cp hN hB hp
    clear hp hB hK hl
    simp only [JF, JA]
    go_enter Tryz.func99, Tryz.ntmps99
    (go_wp2_with fail; with_reducible refine (ye.part 0 HS HV dc).mono ?_; (try clear cc); clear HS; rintro e wn ⟨⟨kd2, tx2, nm2, ps2, ao2, n2, cp2, rfl, HP⟩, HS⟩; have cc := ye.cells HS)
    (have HJ := ((zk (RHp HR .exprStmt hkk 0 trivial)).pv HP); simp only [JF, JA] at HJ; go_wp2_with fail; with_reducible refine (ye.call HS HJ pl).mono ?_; (try clear cc); clear HS HJ; rintro e wn ⟨rfl, HS⟩; have cc := ye.cells HS)
    exact pe
  simp only [ym, sS, sT, Int.reduceEq, reduceIte, h17, h19, h20, h33, h34] at hl ⊢
  have HL := zm hl
  have HV : Hid (PV W0 _ kd tx nm ps ao ks.length cp) := zm ⟨ks, rfl, rfl, hK⟩
  have HS := ye.start (bs := bs) kd tx nm ps ao ks.length cp hN hB hp
  clear hp hB hK hl
  simp only [JF, JA]
  go_enter Tryz.func99, Tryz.ntmps99
  (go_wp2_with fail; with_reducible refine (ye.unk HS pl).mono ?_; (try clear cc); clear HS; rintro e wn ⟨rfl, HS⟩; have cc := ye.cells HS)
  exact pe
theorem ifStmt_step {W0 : World} {N b : Nat} (hN : N = W0.heap.size) (digits : Int → List UInt8) (rec : PrJ → Nat → Tree → List UInt8) (d : Nat) (hd : d < 1152921504606846976) (t : Tree) (hr : RH W0 N b rec .ifStmt d t) (ho : okJ .ifStmt t) : JC W0 N b (ym digits rec) .ifStmt d t := by
  intro kd tx nm ps ks ao cp e hK bs w hB hp hl
  subst e
  have HR := zm hr
  clear hr
  have hkk : (Tree.mk kd tx nm ps ks).kind ≠ 0 := ho
  simp only [ym, sS, sT, Int.reduceEq, reduceIte] at hl ⊢
  have HL := zm hl
  have HV : Hid (PV W0 _ kd tx nm ps ao ks.length cp) := zm ⟨ks, rfl, rfl, hK⟩
  have HS := ye.start (bs := bs) kd tx nm ps ao ks.length cp hN hB hp
  clear hp hB hK hl
  simp only [JF, JA]
  go_enter Tryz.func94, Tryz.ntmps94
  (go_wp2_with fail; (try simp only [ByteArray.mk_append_mk]); with_reducible refine (ye.s HS pl).mono ?_; (try clear cc); clear HS; rintro e wn ⟨⟨v, rfl⟩, HS⟩; have cc := ye.cells HS)
  (go_wp2_with fail; with_reducible refine (ye.part 0 HS HV dc).mono ?_; (try clear cc); clear HS; rintro e wn ⟨⟨kd2, tx2, nm2, ps2, ao2, n2, cp2, rfl, HP⟩, HS⟩; have cc := ye.cells HS)
  (have HJ := ((zk (RHp HR .expr hkk 0 trivial)).pv HP); simp only [JF, JA] at HJ; go_wp2_with fail; with_reducible refine (ye.call HS HJ pl).mono ?_; (try clear cc); clear HS HJ; rintro e wn ⟨rfl, HS⟩; have cc := ye.cells HS)
  (go_wp2_with fail; with_reducible refine (ye.byte 32 HS dc pl).mono ?_; (try clear cc); clear HS; rintro e wn ⟨⟨v, rfl⟩, HS⟩; have cc := ye.cells HS)
  (go_wp2_with fail; with_reducible refine (ye.part 1 HS HV dc).mono ?_; (try clear cc); clear HS; rintro e wn ⟨⟨kd2, tx2, nm2, ps2, ao2, n2, cp2, rfl, HP⟩, HS⟩; have cc := ye.cells HS)
  (have HJ := ((zk (RHp HR .block hkk 1 trivial)).pv HP); simp only [JF, JA] at HJ; go_wp2_with fail; with_reducible refine (ye.call HS HJ pl).mono ?_; (try clear cc); clear HS HJ; rintro e wn ⟨rfl, HS⟩; have cc := ye.cells HS)
  (go_wp2_with fail; with_reducible refine (ye.part 2 HS HV dc).mono ?_; (try clear cc); clear HS; rintro e wn ⟨⟨kd2, tx2, nm2, ps2, ao2, n2, cp2, rfl, HP⟩, HS⟩; have cc := ye.cells HS)
  (have hpj : plainJ .stmt := fun _ _ => rfl; have hjf : JF .stmt = 88 := rfl; have hen : Ent 88 := ent_of 88 dc; have HU := (RHp HR .stmt hkk 2 trivial); go_wp2_with fail; with_reducible refine (ye.unl .stmt HS HP hpj hjf hen HU pl).mono ?_; clear hpj hjf hen HU; (try clear cc); clear HS; rintro e wn ⟨rfl, HS⟩; have cc := ye.cells HS)
  exact pe
theorem forParts_step {W0 : World} {N b : Nat} (hN : N = W0.heap.size) (digits : Int → List UInt8) (rec : PrJ → Nat → Tree → List UInt8) (d : Nat) (hd : d < 1152921504606846976) (t : Tree) (hr : RH W0 N b rec .forParts d t) (ho : okJ .forParts t) : JC W0 N b (ym digits rec) .forParts d t := by
  intro kd tx nm ps ks ao cp e hK bs w hB hp hl
  subst e
  have HR := zm hr
  clear hr
  have hkk : (Tree.mk kd tx nm ps ks).kind ≠ 0 := ho
  simp only [ym, sS, sT, Int.reduceEq, reduceIte] at hl ⊢
  have HL := zm hl
  have HV : Hid (PV W0 _ kd tx nm ps ao ks.length cp) := zm ⟨ks, rfl, rfl, hK⟩
  have HS := ye.start (bs := bs) kd tx nm ps ao ks.length cp hN hB hp
  clear hp hB hK hl
  simp only [JF, JA]
  go_enter Tryz.func109, Tryz.ntmps109
  (go_wp2_with fail; with_reducible refine (ye.byte 32 HS dc pl).mono ?_; (try clear cc); clear HS; rintro e wn ⟨⟨v, rfl⟩, HS⟩; have cc := ye.cells HS)
  (go_wp2_with fail; with_reducible refine (ye.part 0 HS HV dc).mono ?_; (try clear cc); clear HS; rintro e wn ⟨⟨kd2, tx2, nm2, ps2, ao2, n2, cp2, rfl, HP⟩, HS⟩; have cc := ye.cells HS)
  (have hpj : plainJ .stmt := fun _ _ => rfl; have hjf : JF .stmt = 88 := rfl; have hen : Ent 88 := ent_of 88 dc; have HU := (RHp HR .stmt hkk 0 trivial); go_wp2_with fail; with_reducible refine (ye.unl .stmt HS HP hpj hjf hen HU pl).mono ?_; clear hpj hjf hen HU; (try clear cc); clear HS; rintro e wn ⟨rfl, HS⟩; have cc := ye.cells HS)
  (go_wp2_with fail; (try simp only [ByteArray.mk_append_mk]); with_reducible refine (ye.s HS pl).mono ?_; (try clear cc); clear HS; rintro e wn ⟨⟨v, rfl⟩, HS⟩; have cc := ye.cells HS)
  (go_wp2_with fail; with_reducible refine (ye.part 1 HS HV dc).mono ?_; (try clear cc); clear HS; rintro e wn ⟨⟨kd2, tx2, nm2, ps2, ao2, n2, cp2, rfl, HP⟩, HS⟩; have cc := ye.cells HS)
  (have hpj : plainJ .expr := fun _ _ => rfl; have hjf : JF .expr = 93 := rfl; have hen : Ent 93 := ent_of 93 dc; have HU := (RHp HR .expr hkk 1 trivial); go_wp2_with fail; with_reducible refine (ye.unl .expr HS HP hpj hjf hen HU pl).mono ?_; clear hpj hjf hen HU; (try clear cc); clear HS; rintro e wn ⟨rfl, HS⟩; have cc := ye.cells HS)
  (go_wp2_with fail; with_reducible refine (ye.byte 59 HS dc pl).mono ?_; (try clear cc); clear HS; rintro e wn ⟨⟨v, rfl⟩, HS⟩; have cc := ye.cells HS)
  (go_wp2_with fail; with_reducible refine (ye.part 2 HS HV dc).mono ?_; (try clear cc); clear HS; rintro e wn ⟨⟨kd2, tx2, nm2, ps2, ao2, n2, cp2, rfl, HP⟩, HS⟩; have cc := ye.cells HS)
  (have hpj : plainJ .stmt := fun _ _ => rfl; have hjf : JF .stmt = 88 := rfl; have hen : Ent 88 := ent_of 88 dc; have HU := (RHp HR .stmt hkk 2 trivial); go_wp2_with fail; with_reducible refine (ye.unl .stmt HS HP hpj hjf hen HU pl).mono ?_; clear hpj hjf hen HU; (try clear cc); clear HS; rintro e wn ⟨rfl, HS⟩; have cc := ye.cells HS)
  exact pe
theorem switchStmt_step {W0 : World} {N b : Nat} (hN : N = W0.heap.size) (digits : Int → List UInt8) (rec : PrJ → Nat → Tree → List UInt8) (d : Nat) (hd : d < 1152921504606846976) (t : Tree) (hr : RH W0 N b rec .switchStmt d t) (ho : okJ .switchStmt t) : JC W0 N b (ym digits rec) .switchStmt d t := by
  intro kd tx nm ps ks ao cp e hK bs w hB hp hl
  subst e
  have HR := zm hr
  clear hr
  have hkk : (Tree.mk kd tx nm ps ks).kind ≠ 0 := ho
  simp only [ym, sS, sT, Int.reduceEq, reduceIte] at hl ⊢
  have HL := zm hl
  have HV : Hid (PV W0 _ kd tx nm ps ao ks.length cp) := zm ⟨ks, rfl, rfl, hK⟩
  have HS := ye.start (bs := bs) kd tx nm ps ao ks.length cp hN hB hp
  clear hp hB hK hl
  simp only [JF, JA]
  go_enter Tryz.func96, Tryz.ntmps96
  (go_wp2_with fail; (try simp only [ByteArray.mk_append_mk]); with_reducible refine (ye.s HS pl).mono ?_; (try clear cc); clear HS; rintro e wn ⟨⟨v, rfl⟩, HS⟩; have cc := ye.cells HS)
  (go_wp2_with fail; with_reducible refine (ye.part 0 HS HV dc).mono ?_; (try clear cc); clear HS; rintro e wn ⟨⟨kd2, tx2, nm2, ps2, ao2, n2, cp2, rfl, HP⟩, HS⟩; have cc := ye.cells HS)
  (have hpj : plainJ .expr := fun _ _ => rfl; have hjf : JF .expr = 93 := rfl; have hen : Ent 93 := ent_of 93 dc; have HU := (RHp HR .expr hkk 0 trivial); go_wp2_with fail; with_reducible refine (ye.unl .expr HS HP hpj hjf hen HU pl).mono ?_; clear hpj hjf hen HU; (try clear cc); clear HS; rintro e wn ⟨rfl, HS⟩; have cc := ye.cells HS)
  (go_wp2_with fail; with_reducible refine (ye.from_ HS HV).mono ?_; (try clear cc); clear HS; rintro e wn ⟨⟨ar, nr, cr, rfl, HR2⟩, HS⟩; have cc := ye.cells HS)
  (have hpj : plainJ .clause := fun _ _ => rfl; have hjf : JF .clause = 111 := rfl; have hen : Ent 111 := ent_of 111 dc; have HU := (RHk HR .clause (l := ks.drop 1) (fun _ => trivial) (fun _ h => List.mem_of_mem_drop h)); have HQ := HR2; go_wp2_with fail; with_reducible refine (ye.clauses .clause HS HQ hpj hjf hen HU pl).mono ?_; clear hpj hjf hen HU HQ; (try clear cc); clear HS; rintro e wn ⟨rfl, HS⟩; have cc := ye.cells HS)
  exact pe
theorem selectStmt_step {W0 : World} {N b : Nat} (hN : N = W0.heap.size) (digits : Int → List UInt8) (rec : PrJ → Nat → Tree → List UInt8) (d : Nat) (hd : d < 1152921504606846976) (t : Tree) (hr : RH W0 N b rec .selectStmt d t) (ho : okJ .selectStmt t) : JC W0 N b (ym digits rec) .selectStmt d t := by
  intro kd tx nm ps ks ao cp e hK bs w hB hp hl
  subst e
  have HR := zm hr
  clear hr
  have hkk : (Tree.mk kd tx nm ps ks).kind ≠ 0 := ho
  simp only [ym, sS, sT, Int.reduceEq, reduceIte] at hl ⊢
  have HL := zm hl
  have HV : Hid (PV W0 _ kd tx nm ps ao ks.length cp) := zm ⟨ks, rfl, rfl, hK⟩
  have HS := ye.start (bs := bs) kd tx nm ps ao ks.length cp hN hB hp
  clear hp hB hK hl
  simp only [JF, JA]
  go_enter Tryz.func97, Tryz.ntmps97
  (go_wp2_with fail; (try simp only [ByteArray.mk_append_mk]); with_reducible refine (ye.s HS pl).mono ?_; (try clear cc); clear HS; rintro e wn ⟨⟨v, rfl⟩, HS⟩; have cc := ye.cells HS)
  (have hpj : plainJ .comm := fun _ _ => rfl; have hjf : JF .comm = 112 := rfl; have hen : Ent 112 := ent_of 112 dc; have HU := (RHk HR .comm (l := ks) (fun _ => trivial) (fun _ h => h)); have HQ := (PV.rv HV); go_wp2_with fail; with_reducible refine (ye.clauses .comm HS HQ hpj hjf hen HU pl).mono ?_; clear hpj hjf hen HU HQ; (try clear cc); clear HS; rintro e wn ⟨rfl, HS⟩; have cc := ye.cells HS)
  exact pe
theorem clauseStmts_step {W0 : World} {N b : Nat} (hN : N = W0.heap.size) (digits : Int → List UInt8) (rec : PrJ → Nat → Tree → List UInt8) (d : Nat) (hd : d < 1152921504606846976) (t : Tree) (hr : RH W0 N b rec .clauseStmts d t) (ho : okJ .clauseStmts t) : JC W0 N b (ym digits rec) .clauseStmts d t := by
  intro kd tx nm ps ks ao cp e hK bs w hB hp hl
  subst e
  have HR := zm hr
  clear hr
  by_cases h16 : kd = 16
  · subst h16
    have hkk : (Tree.mk 16 tx nm ps ks).kind ≠ 0 := by simp [Tree.kind]
    simp only [ym, sS, sT, Int.reduceEq, reduceIte] at hl ⊢
    have HL := zm hl
    have HV : Hid (PV W0 _ 16 tx nm ps ao ks.length cp) := zm ⟨ks, rfl, rfl, hK⟩
    have HS := ye.start (bs := bs) 16 tx nm ps ao ks.length cp hN hB hp
    clear hp hB hK hl
    simp only [JF, JA]
    go_enter Tryz.func126, Tryz.ntmps126
    (go_wp2_with fail; (try simp only [ByteArray.mk_append_mk]); with_reducible refine (ye.s HS pl).mono ?_; (try clear cc); clear HS; rintro e wn ⟨⟨v, rfl⟩, HS⟩; have cc := ye.cells HS)
    (have hpj : plainJ .stmt := fun _ _ => rfl; have hjf : JF .stmt = 88 := rfl; have hen : Ent 88 := ent_of 88 dc; have HU := (RHk1 HR .stmt (l := ks) (fun _ => trivial) (fun _ h => h)); have HQ := (PV.rv HV); go_wp2_with fail; with_reducible refine (ye.lines .stmt HS HQ hpj hjf hen HU hd pl).mono ?_; clear hpj hjf hen HU HQ; (try clear cc); clear HS; rintro e wn ⟨rfl, HS⟩; have cc := ye.cells HS)
    exact pe
  simp only [ym, sS, sT, Int.reduceEq, reduceIte, h16] at hl ⊢
  have HL := zm hl
  have HV : Hid (PV W0 _ kd tx nm ps ao ks.length cp) := zm ⟨ks, rfl, rfl, hK⟩
  have HS := ye.start (bs := bs) kd tx nm ps ao ks.length cp hN hB hp
  clear hp hB hK hl
  simp only [JF, JA]
  go_enter Tryz.func126, Tryz.ntmps126
  (go_wp2_with fail; (try simp only [ByteArray.mk_append_mk]); with_reducible refine (ye.s HS pl).mono ?_; (try clear cc); clear HS; rintro e wn ⟨⟨v, rfl⟩, HS⟩; have cc := ye.cells HS)
  (go_wp2_with fail; with_reducible refine (ye.unk HS pl).mono ?_; (try clear cc); clear HS; rintro e wn ⟨rfl, HS⟩; have cc := ye.cells HS)
  exact pe
end Go.Proofs.YtheknbfbneghgaaGreatDoor.Pp
set_option maxHeartbeats 8000000
set_option maxRecDepth 100000
namespace Go.Proofs.YtheknbfbneghgaaGreatDoor.Pp
open Go.RowKit Go.Proofs.YtheknbfbneghgaaGreatDoor.Lx Go.Proofs.YtheknbfbneghgaaGreatDoor.Px
theorem stmt_step {W0 : World} {N b : Nat} (hN : N = W0.heap.size) (digits : Int → List UInt8) (rec : PrJ → Nat → Tree → List UInt8) (d : Nat) (hd : d < 1152921504606846976) (t : Tree) (hr : RH W0 N b rec .stmt d t) (ho : okJ .stmt t) : JC W0 N b (ym digits rec) .stmt d t := by
  intro kd tx nm ps ks ao cp e hK bs w hB hp hl
  subst e
  have HR := zm hr
  clear hr
  by_cases h18 : kd = 18
  · subst h18
    have hkk : (Tree.mk 18 tx nm ps ks).kind ≠ 0 := by simp [Tree.kind]
    simp only [ym, sS, sT, Int.reduceEq, reduceIte] at hl ⊢
    have HL := zm hl
    have HV : Hid (PV W0 _ 18 tx nm ps ao ks.length cp) := zm ⟨ks, rfl, rfl, hK⟩
    have HS := ye.start (bs := bs) 18 tx nm ps ao ks.length cp hN hB hp
    clear hp hB hK hl
    simp only [JF, JA]
    go_enter Tryz.func88, Tryz.ntmps88
    (go_wp2_with fail; (try simp only [ByteArray.mk_append_mk]); with_reducible refine (ye.s HS pl).mono ?_; (try clear cc); clear HS; rintro e wn ⟨⟨v, rfl⟩, HS⟩; have cc := ye.cells HS)
    (have HJ := ((zk (RHs HR .typed dc zM)).pv HV); simp only [JF, JA] at HJ; go_wp2_with fail; with_reducible refine (ye.call HS HJ pl).mono ?_; (try clear cc); clear HS HJ; rintro e wn ⟨rfl, HS⟩; have cc := ye.cells HS)
    (go_wp2_with fail; with_reducible refine (ye.part 1 HS HV dc).mono ?_; (try clear cc); clear HS; rintro e wn ⟨⟨kd2, tx2, nm2, ps2, ao2, n2, cp2, rfl, HP⟩, HS⟩; have cc := ye.cells HS)
    (have hpj : plainJ .expr := fun _ _ => rfl; have hjf : JF .expr = 93 := rfl; have hen : Ent 93 := ent_of 93 dc; have HU := (RHp HR .expr hkk 1 trivial); go_wp2_with fail; with_reducible refine (ye.unl .expr HS HP hpj hjf hen HU pl).mono ?_; clear hpj hjf hen HU; (try clear cc); clear HS; rintro e wn ⟨rfl, HS⟩; have cc := ye.cells HS)
    exact pe
  by_cases h16 : kd = 16
  · subst h16
    have hkk : (Tree.mk 16 tx nm ps ks).kind ≠ 0 := by simp [Tree.kind]
    simp only [ym, sS, sT, Int.reduceEq, reduceIte] at hl ⊢
    have HL := zm hl
    have HV : Hid (PV W0 _ 16 tx nm ps ao ks.length cp) := zm ⟨ks, rfl, rfl, hK⟩
    have HS := ye.start (bs := bs) 16 tx nm ps ao ks.length cp hN hB hp
    clear hp hB hK hl
    simp only [JF, JA]
    go_enter Tryz.func88, Tryz.ntmps88
    (have HJ := ((zk (RHs HR .block dc zM)).pv HV); simp only [JF, JA] at HJ; go_wp2_with fail; with_reducible refine (ye.call HS HJ pl).mono ?_; (try clear cc); clear HS HJ; rintro e wn ⟨rfl, HS⟩; have cc := ye.cells HS)
    exact pe
  by_cases h21 : kd = 21
  · subst h21
    have hkk : (Tree.mk 21 tx nm ps ks).kind ≠ 0 := by simp [Tree.kind]
    simp only [ym, sS, sT, Int.reduceEq, reduceIte] at hl ⊢
    have HL := zm hl
    have HV : Hid (PV W0 _ 21 tx nm ps ao ks.length cp) := zm ⟨ks, rfl, rfl, hK⟩
    have HS := ye.start (bs := bs) 21 tx nm ps ao ks.length cp hN hB hp
    clear hp hB hK hl
    simp only [JF, JA]
    go_enter Tryz.func88, Tryz.ntmps88
    (have HJ := ((zk (RHs HR .ifStmt dc zM)).pv HV); simp only [JF, JA] at HJ; go_wp2_with fail; with_reducible refine (ye.call HS HJ pl).mono ?_; (try clear cc); clear HS HJ; rintro e wn ⟨rfl, HS⟩; have cc := ye.cells HS)
    exact pe
  by_cases h22 : kd = 22
  · subst h22
    have hkk : (Tree.mk 22 tx nm ps ks).kind ≠ 0 := by simp [Tree.kind]
    simp only [ym, sS, sT, Int.reduceEq, reduceIte] at hl ⊢
    have HL := zm hl
    have HV : Hid (PV W0 _ 22 tx nm ps ao ks.length cp) := zm ⟨ks, rfl, rfl, hK⟩
    have HS := ye.start (bs := bs) 22 tx nm ps ao ks.length cp hN hB hp
    clear hp hB hK hl
    simp only [JF, JA]
    go_enter Tryz.func88, Tryz.ntmps88
    (have HJ := ((zk (RHs HR .forStmt dc zM)).pv HV); simp only [JF, JA] at HJ; go_wp2_with fail; with_reducible refine (ye.call HS HJ pl).mono ?_; (try clear cc); clear HS HJ; rintro e wn ⟨rfl, HS⟩; have cc := ye.cells HS)
    exact pe
  by_cases h23 : kd = 23
  · subst h23
    have hkk : (Tree.mk 23 tx nm ps ks).kind ≠ 0 := by simp [Tree.kind]
    simp only [ym, sS, sT, Int.reduceEq, reduceIte] at hl ⊢
    have HL := zm hl
    have HV : Hid (PV W0 _ 23 tx nm ps ao ks.length cp) := zm ⟨ks, rfl, rfl, hK⟩
    have HS := ye.start (bs := bs) 23 tx nm ps ao ks.length cp hN hB hp
    clear hp hB hK hl
    simp only [JF, JA]
    go_enter Tryz.func88, Tryz.ntmps88
    (have HJ := ((zk (RHs HR .switchStmt dc zM)).pv HV); simp only [JF, JA] at HJ; go_wp2_with fail; with_reducible refine (ye.call HS HJ pl).mono ?_; (try clear cc); clear HS HJ; rintro e wn ⟨rfl, HS⟩; have cc := ye.cells HS)
    exact pe
  by_cases h25 : kd = 25
  · subst h25
    have hkk : (Tree.mk 25 tx nm ps ks).kind ≠ 0 := by simp [Tree.kind]
    simp only [ym, sS, sT, Int.reduceEq, reduceIte] at hl ⊢
    have HL := zm hl
    have HV : Hid (PV W0 _ 25 tx nm ps ao ks.length cp) := zm ⟨ks, rfl, rfl, hK⟩
    have HS := ye.start (bs := bs) 25 tx nm ps ao ks.length cp hN hB hp
    clear hp hB hK hl
    simp only [JF, JA]
    go_enter Tryz.func88, Tryz.ntmps88
    (have HJ := ((zk (RHs HR .selectStmt dc zM)).pv HV); simp only [JF, JA] at HJ; go_wp2_with fail; with_reducible refine (ye.call HS HJ pl).mono ?_; (try clear cc); clear HS HJ; rintro e wn ⟨rfl, HS⟩; have cc := ye.cells HS)
    exact pe
  by_cases h27 : kd = 27
  · subst h27
    have hkk : (Tree.mk 27 tx nm ps ks).kind ≠ 0 := by simp [Tree.kind]
    simp only [ym, sS, sT, Int.reduceEq, reduceIte] at hl ⊢
    have HL := zm hl
    have HV : Hid (PV W0 _ 27 tx nm ps ao ks.length cp) := zm ⟨ks, rfl, rfl, hK⟩
    have HS := ye.start (bs := bs) 27 tx nm ps ao ks.length cp hN hB hp
    clear hp hB hK hl
    simp only [JF, JA]
    go_enter Tryz.func88, Tryz.ntmps88
    (have HJ := ((zk (RHr HR (.jump [98, 114, 101, 97, 107]) (by simp [rnk]) zM)).pv HV); simp only [JF, JA] at HJ; go_wp2_with fail; with_reducible refine (ye.call HS HJ pl).mono ?_; (try clear cc); clear HS HJ; rintro e wn ⟨rfl, HS⟩; have cc := ye.cells HS)
    exact pe
  by_cases h28 : kd = 28
  · subst h28
    have hkk : (Tree.mk 28 tx nm ps ks).kind ≠ 0 := by simp [Tree.kind]
    simp only [ym, sS, sT, Int.reduceEq, reduceIte] at hl ⊢
    have HL := zm hl
    have HV : Hid (PV W0 _ 28 tx nm ps ao ks.length cp) := zm ⟨ks, rfl, rfl, hK⟩
    have HS := ye.start (bs := bs) 28 tx nm ps ao ks.length cp hN hB hp
    clear hp hB hK hl
    simp only [JF, JA]
    go_enter Tryz.func88, Tryz.ntmps88
    (have HJ := ((zk (RHr HR (.jump [99, 111, 110, 116, 105, 110, 117, 101]) (by simp [rnk]) zM)).pv HV); simp only [JF, JA] at HJ; go_wp2_with fail; with_reducible refine (ye.call HS HJ pl).mono ?_; (try clear cc); clear HS HJ; rintro e wn ⟨rfl, HS⟩; have cc := ye.cells HS)
    exact pe
  by_cases h29 : kd = 29
  · subst h29
    have hkk : (Tree.mk 29 tx nm ps ks).kind ≠ 0 := by simp [Tree.kind]
    simp only [ym, sS, sT, Int.reduceEq, reduceIte] at hl ⊢
    have HL := zm hl
    have HV : Hid (PV W0 _ 29 tx nm ps ao ks.length cp) := zm ⟨ks, rfl, rfl, hK⟩
    have HS := ye.start (bs := bs) 29 tx nm ps ao ks.length cp hN hB hp
    clear hp hB hK hl
    simp only [JF, JA]
    go_enter Tryz.func88, Tryz.ntmps88
    (go_wp2_with fail; (try simp only [ByteArray.mk_append_mk]); with_reducible refine (ye.s HS pl).mono ?_; (try clear cc); clear HS; rintro e wn ⟨⟨v, rfl⟩, HS⟩; have cc := ye.cells HS)
    exact pe
  by_cases h30 : kd = 30
  · subst h30
    have hkk : (Tree.mk 30 tx nm ps ks).kind ≠ 0 := by simp [Tree.kind]
    simp only [ym, sS, sT, Int.reduceEq, reduceIte] at hl ⊢
    have HL := zm hl
    have HV : Hid (PV W0 _ 30 tx nm ps ao ks.length cp) := zm ⟨ks, rfl, rfl, hK⟩
    have HS := ye.start (bs := bs) 30 tx nm ps ao ks.length cp hN hB hp
    clear hp hB hK hl
    simp only [JF, JA]
    go_enter Tryz.func88, Tryz.ntmps88
    (go_wp2_with fail; (try simp only [ByteArray.mk_append_mk]); with_reducible refine (ye.s HS pl).mono ?_; (try clear cc); clear HS; rintro e wn ⟨⟨v, rfl⟩, HS⟩; have cc := ye.cells HS)
    (go_wp2_with fail; with_reducible refine (ye.part 0 HS HV dc).mono ?_; (try clear cc); clear HS; rintro e wn ⟨⟨kd2, tx2, nm2, ps2, ao2, n2, cp2, rfl, HP⟩, HS⟩; have cc := ye.cells HS)
    (have hpj : plainJ .expr := fun _ _ => rfl; have hjf : JF .expr = 93 := rfl; have hen : Ent 93 := ent_of 93 dc; have HU := (RHp HR .expr hkk 0 trivial); go_wp2_with fail; with_reducible refine (ye.unl .expr HS HP hpj hjf hen HU pl).mono ?_; clear hpj hjf hen HU; (try clear cc); clear HS; rintro e wn ⟨rfl, HS⟩; have cc := ye.cells HS)
    exact pe
  by_cases h31 : kd = 31
  · subst h31
    have hkk : (Tree.mk 31 tx nm ps ks).kind ≠ 0 := by simp [Tree.kind]
    simp only [ym, sS, sT, Int.reduceEq, reduceIte] at hl ⊢
    have HL := zm hl
    have HV : Hid (PV W0 _ 31 tx nm ps ao ks.length cp) := zm ⟨ks, rfl, rfl, hK⟩
    have HS := ye.start (bs := bs) 31 tx nm ps ao ks.length cp hN hB hp
    clear hp hB hK hl
    simp only [JF, JA]
    go_enter Tryz.func88, Tryz.ntmps88
    (go_wp2_with fail; (try simp only [ByteArray.mk_append_mk]); with_reducible refine (ye.s HS pl).mono ?_; (try clear cc); clear HS; rintro e wn ⟨⟨v, rfl⟩, HS⟩; have cc := ye.cells HS)
    (go_wp2_with fail; with_reducible refine (ye.part 0 HS HV dc).mono ?_; (try clear cc); clear HS; rintro e wn ⟨⟨kd2, tx2, nm2, ps2, ao2, n2, cp2, rfl, HP⟩, HS⟩; have cc := ye.cells HS)
    (have HJ := ((zk (RHp HR .expr hkk 0 trivial)).pv HP); simp only [JF, JA] at HJ; go_wp2_with fail; with_reducible refine (ye.call HS HJ pl).mono ?_; (try clear cc); clear HS HJ; rintro e wn ⟨rfl, HS⟩; have cc := ye.cells HS)
    exact pe
  by_cases h32 : kd = 32
  · subst h32
    have hkk : (Tree.mk 32 tx nm ps ks).kind ≠ 0 := by simp [Tree.kind]
    simp only [ym, sS, sT, Int.reduceEq, reduceIte] at hl ⊢
    have HL := zm hl
    have HV : Hid (PV W0 _ 32 tx nm ps ao ks.length cp) := zm ⟨ks, rfl, rfl, hK⟩
    have HS := ye.start (bs := bs) 32 tx nm ps ao ks.length cp hN hB hp
    clear hp hB hK hl
    simp only [JF, JA]
    go_enter Tryz.func88, Tryz.ntmps88
    (go_wp2_with fail; (try simp only [ByteArray.mk_append_mk]); with_reducible refine (ye.s HS pl).mono ?_; (try clear cc); clear HS; rintro e wn ⟨⟨v, rfl⟩, HS⟩; have cc := ye.cells HS)
    (go_wp2_with fail; with_reducible refine (ye.part 0 HS HV dc).mono ?_; (try clear cc); clear HS; rintro e wn ⟨⟨kd2, tx2, nm2, ps2, ao2, n2, cp2, rfl, HP⟩, HS⟩; have cc := ye.cells HS)
    (have HJ := ((zk (RHp HR .expr hkk 0 trivial)).pv HP); simp only [JF, JA] at HJ; go_wp2_with fail; with_reducible refine (ye.call HS HJ pl).mono ?_; (try clear cc); clear HS HJ; rintro e wn ⟨rfl, HS⟩; have cc := ye.cells HS)
    exact pe
  by_cases h35 : kd = 35
  · subst h35
    have hkk : (Tree.mk 35 tx nm ps ks).kind ≠ 0 := by simp [Tree.kind]
    simp only [ym, sS, sT, Int.reduceEq, reduceIte] at hl ⊢
    have HL := zm hl
    have HV : Hid (PV W0 _ 35 tx nm ps ao ks.length cp) := zm ⟨ks, rfl, rfl, hK⟩
    have HS := ye.start (bs := bs) 35 tx nm ps ao ks.length cp hN hB hp
    have ht : tx.length ≤ 1099511627776 := pl
    have hc5 : ¬ 9223372036854775807 < tx.length + 2 := om
    clear hp hB hK hl
    simp only [JF, JA]
    go_enter Tryz.func88, Tryz.ntmps88
    (go_wp2; go_region_held2 (fun w' => w'.cell? ⟨w.heap.size, 1, none⟩ = some (.string ⟨tx.toArray⟩)) (go_keep) (first | (go_at_call 36; (try simp only [ByteArray.mk_append_mk]); with_reducible refine (ye.s (ye.dr HS) pl).mono ?_; (try clear cc); clear HS; rintro e wn ⟨⟨v, rfl⟩, HS⟩; have cc := ye.cells HS)))
    (go_wp2_with fail; with_reducible refine (ye.part 0 HS HV dc).mono ?_; (try clear cc); clear HS; rintro e wn ⟨⟨kd2, tx2, nm2, ps2, ao2, n2, cp2, rfl, HP⟩, HS⟩; have cc := ye.cells HS)
    (have HJ := ((zk (RHp HR .stmt hkk 0 trivial)).pv HP); simp only [JF, JA] at HJ; go_wp2_with fail; with_reducible refine (ye.call HS HJ pl).mono ?_; (try clear cc); clear HS HJ; rintro e wn ⟨rfl, HS⟩; have cc := ye.cells HS)
    exact pe
  simp only [ym, sS, sT, Int.reduceEq, reduceIte, h18, h16, h21, h22, h23, h25, h27, h28, h29, h30, h31, h32, h35] at hl ⊢
  have HL := zm hl
  have HV : Hid (PV W0 _ kd tx nm ps ao ks.length cp) := zm ⟨ks, rfl, rfl, hK⟩
  have HS := ye.start (bs := bs) kd tx nm ps ao ks.length cp hN hB hp
  clear hp hB hK hl
  simp only [JF, JA]
  go_enter Tryz.func88, Tryz.ntmps88
  (have HJ := ((zk (RHs HR .simple dc zM)).pv HV); simp only [JF, JA] at HJ; go_wp2_with fail; with_reducible refine (ye.call HS HJ pl).mono ?_; (try clear cc); clear HS HJ; rintro e wn ⟨rfl, HS⟩; have cc := ye.cells HS)
  exact pe
end Go.Proofs.YtheknbfbneghgaaGreatDoor.Pp
set_option maxHeartbeats 8000000
set_option maxRecDepth 100000
namespace Go.Proofs.YtheknbfbneghgaaGreatDoor.Pp
open Go.RowKit Go.Proofs.YtheknbfbneghgaaGreatDoor.Lx Go.Proofs.YtheknbfbneghgaaGreatDoor.Px
theorem jump_step {W0 : World} {N b : Nat} (hN : N = W0.heap.size) (digits : Int → List UInt8) (rec : PrJ → Nat → Tree → List UInt8) (s : List UInt8) (d : Nat) (hd : d < 1152921504606846976) (t : Tree) (hr : RH W0 N b rec (.jump s) d t) (ho : okJ (.jump s) t) : JC W0 N b (ym digits rec) (.jump s) d t := by
  intro kd tx nm ps ks ao cp e hK bs w hB hp hl
  subst e
  have HR := zm hr
  clear hr
  by_cases h0 : tx = []
  · have h0b : tx.isEmpty = true := by rw [h0]; rfl
    simp only [ym, sS, sT, Int.reduceEq, reduceIte, et h0] at hl ⊢
    have HL := zm hl
    have HV : Hid (PV W0 _ kd tx nm ps ao ks.length cp) := zm ⟨ks, rfl, rfl, hK⟩
    have HS := ye.start (bs := bs) kd tx nm ps ao ks.length cp hN hB hp
    clear hp hB hK hl hN
    try clear h0
    try clear h1
    try clear h2
    try clear hz
    simp only [JF, JA]
    go_enter Tryz.func98, Tryz.ntmps98
    (go_wp2_with fail; (try simp only [ByteArray.mk_append_mk]); with_reducible refine (ye.s HS pl).mono ?_; (try clear cc); clear HS; rintro e wn ⟨⟨v, rfl⟩, HS⟩; have cc := ye.cells HS)
    exact pe
  · have h0b : tx.isEmpty = false := by simpa using h0
    simp only [ym, sS, sT, Int.reduceEq, reduceIte, ef h0] at hl ⊢
    have HL := zm hl
    have HV : Hid (PV W0 _ kd tx nm ps ao ks.length cp) := zm ⟨ks, rfl, rfl, hK⟩
    have HS := ye.start (bs := bs) kd tx nm ps ao ks.length cp hN hB hp
    have ht : tx.length ≤ 1099511627776 := pl
    have hc5 : ¬ 9223372036854775807 < 1 + tx.length := om
    clear hp hB hK hl hN
    try clear h0
    try clear h1
    try clear h2
    try clear hz
    simp only [JF, JA]
    go_enter Tryz.func98, Tryz.ntmps98
    (go_wp2_with fail; (try simp only [ByteArray.mk_append_mk]); with_reducible refine (ye.s HS pl).mono ?_; (try clear cc); clear HS; rintro e wn ⟨⟨v, rfl⟩, HS⟩; have cc := ye.cells HS)
    (go_wp2; go_region_held2 (fun w' => w'.cell? ⟨w.heap.size, 1, none⟩ = some (.string ⟨tx.toArray⟩)) (go_keep) (first | (go_at_call 36; (try simp only [ByteArray.mk_append_mk]); with_reducible refine (ye.s (ye.dr HS) pl).mono ?_; (try clear cc); clear HS; rintro e wn ⟨⟨v, rfl⟩, HS⟩; have cc := ye.cells HS)))
    exact pe
theorem builtin_step {W0 : World} {N b : Nat} (hN : N = W0.heap.size) (digits : Int → List UInt8) (rec : PrJ → Nat → Tree → List UInt8) (d : Nat) (hd : d < 1152921504606846976) (t : Tree) (hr : RH W0 N b rec .builtin d t) (ho : okJ .builtin t) : JC W0 N b (ym digits rec) .builtin d t := by
  intro kd tx nm ps ks ao cp e hK bs w hB hp hl
  subst e
  have HR := zm hr
  clear hr
  have hkk : (Tree.mk kd tx nm ps ks).kind ≠ 0 := ho
  by_cases h1 : tx = [109, 97, 107, 101]
  · have h1b : (tx == [109, 97, 107, 101]) = true := by rw [h1]; rfl
    by_cases hlen : 1 < ks.length
    · have hli : (1 : Int) < (ks.length : Int) := om
      simp only [ym, sS, sT, Int.reduceEq, reduceIte, et h1, et hlen] at hl ⊢
      have HL := zm hl
      have HV : Hid (PV W0 _ kd tx nm ps ao ks.length cp) := zm ⟨ks, rfl, rfl, hK⟩
      have HS := ye.start (bs := bs) kd tx nm ps ao ks.length cp hN hB hp
      have ht : tx.length ≤ 1099511627776 := pl
      have hc5 : ¬ 9223372036854775807 < tx.length + 1 := om
      clear hp hB hK hl hN
      try clear h0
      try clear h1
      try clear h2
      try clear hz
      simp only [JF, JA]
      go_enter Tryz.func105, Tryz.ntmps105
      (go_wp2; go_region_held2 (fun w' => w'.cell? ⟨w.heap.size, 1, none⟩ = some (.string ⟨tx.toArray⟩)) (go_keep) (first | (go_at_call 36; (try simp only [ByteArray.mk_append_mk]); with_reducible refine (ye.s (ye.dr HS) pl).mono ?_; (try clear cc); clear HS; rintro e wn ⟨⟨v, rfl⟩, HS⟩; have cc := ye.cells HS)))
      (go_wp2_with fail; with_reducible refine (ye.part 0 HS HV dc).mono ?_; (try clear cc); clear HS; rintro e wn ⟨⟨kd2, tx2, nm2, ps2, ao2, n2, cp2, rfl, HP⟩, HS⟩; have cc := ye.cells HS)
      (have HJ := ((zk (RHp HR .wtype hkk 0 trivial)).pv HP); simp only [JF, JA] at HJ; go_wp2_with fail; with_reducible refine (ye.call HS HJ pl).mono ?_; (try clear cc); clear HS HJ; rintro e wn ⟨rfl, HS⟩; have cc := ye.cells HS)
      (go_wp2_with fail; (try simp only [ByteArray.mk_append_mk]); with_reducible refine (ye.s HS pl).mono ?_; (try clear cc); clear HS; rintro e wn ⟨⟨v, rfl⟩, HS⟩; have cc := ye.cells HS)
      (go_wp2_with fail; with_reducible refine (ye.part 1 HS HV dc).mono ?_; (try clear cc); clear HS; rintro e wn ⟨⟨kd2, tx2, nm2, ps2, ao2, n2, cp2, rfl, HP⟩, HS⟩; have cc := ye.cells HS)
      (have HJ := ((zk (RHp HR .expr hkk 1 trivial)).pv HP); simp only [JF, JA] at HJ; go_wp2_with fail; with_reducible refine (ye.call HS HJ pl).mono ?_; (try clear cc); clear HS HJ; rintro e wn ⟨rfl, HS⟩; have cc := ye.cells HS)
      (go_wp2_with fail; with_reducible refine (ye.byte 41 HS dc pl).mono ?_; (try clear cc); clear HS; rintro e wn ⟨⟨v, rfl⟩, HS⟩; have cc := ye.cells HS)
      exact pe
    · have hli : ¬ (1 : Int) < (ks.length : Int) := om
      simp only [ym, sS, sT, Int.reduceEq, reduceIte, et h1, ef hlen] at hl ⊢
      have HL := zm hl
      have HV : Hid (PV W0 _ kd tx nm ps ao ks.length cp) := zm ⟨ks, rfl, rfl, hK⟩
      have HS := ye.start (bs := bs) kd tx nm ps ao ks.length cp hN hB hp
      have ht : tx.length ≤ 1099511627776 := pl
      have hc5 : ¬ 9223372036854775807 < tx.length + 1 := om
      clear hp hB hK hl hN
      try clear h0
      try clear h1
      try clear h2
      try clear hz
      simp only [JF, JA]
      go_enter Tryz.func105, Tryz.ntmps105
      (go_wp2; go_region_held2 (fun w' => w'.cell? ⟨w.heap.size, 1, none⟩ = some (.string ⟨tx.toArray⟩)) (go_keep) (first | (go_at_call 36; (try simp only [ByteArray.mk_append_mk]); with_reducible refine (ye.s (ye.dr HS) pl).mono ?_; (try clear cc); clear HS; rintro e wn ⟨⟨v, rfl⟩, HS⟩; have cc := ye.cells HS)))
      (go_wp2_with fail; with_reducible refine (ye.part 0 HS HV dc).mono ?_; (try clear cc); clear HS; rintro e wn ⟨⟨kd2, tx2, nm2, ps2, ao2, n2, cp2, rfl, HP⟩, HS⟩; have cc := ye.cells HS)
      (have HJ := ((zk (RHp HR .wtype hkk 0 trivial)).pv HP); simp only [JF, JA] at HJ; go_wp2_with fail; with_reducible refine (ye.call HS HJ pl).mono ?_; (try clear cc); clear HS HJ; rintro e wn ⟨rfl, HS⟩; have cc := ye.cells HS)
      (go_wp2_with fail; with_reducible refine (ye.byte 41 HS dc pl).mono ?_; (try clear cc); clear HS; rintro e wn ⟨⟨v, rfl⟩, HS⟩; have cc := ye.cells HS)
      exact pe
  · have h1b : (tx == [109, 97, 107, 101]) = false := by simpa using h1
    by_cases h2 : tx = [110, 101, 119]
    · have h2b : (tx == [110, 101, 119]) = true := by rw [h2]; rfl
      simp only [ym, sS, sT, Int.reduceEq, reduceIte, ef h1, et h2] at hl ⊢
      have HL := zm hl
      have HV : Hid (PV W0 _ kd tx nm ps ao ks.length cp) := zm ⟨ks, rfl, rfl, hK⟩
      have HS := ye.start (bs := bs) kd tx nm ps ao ks.length cp hN hB hp
      have ht : tx.length ≤ 1099511627776 := pl
      have hc5 : ¬ 9223372036854775807 < tx.length + 1 := om
      clear hp hB hK hl hN
      try clear h0
      try clear h1
      try clear h2
      try clear hz
      simp only [JF, JA]
      go_enter Tryz.func105, Tryz.ntmps105
      (go_wp2; go_region_held2 (fun w' => w'.cell? ⟨w.heap.size, 1, none⟩ = some (.string ⟨tx.toArray⟩)) (go_keep) (first | (go_at_call 36; (try simp only [ByteArray.mk_append_mk]); with_reducible refine (ye.s (ye.dr HS) pl).mono ?_; (try clear cc); clear HS; rintro e wn ⟨⟨v, rfl⟩, HS⟩; have cc := ye.cells HS)))
      (go_wp2_with fail; with_reducible refine (ye.part 0 HS HV dc).mono ?_; (try clear cc); clear HS; rintro e wn ⟨⟨kd2, tx2, nm2, ps2, ao2, n2, cp2, rfl, HP⟩, HS⟩; have cc := ye.cells HS)
      (have HJ := ((zk (RHp HR .pointed hkk 0 trivial)).pv HP); simp only [JF, JA] at HJ; go_wp2_with fail; with_reducible refine (ye.call HS HJ pl).mono ?_; (try clear cc); clear HS HJ; rintro e wn ⟨rfl, HS⟩; have cc := ye.cells HS)
      (go_wp2_with fail; with_reducible refine (ye.byte 41 HS dc pl).mono ?_; (try clear cc); clear HS; rintro e wn ⟨⟨v, rfl⟩, HS⟩; have cc := ye.cells HS)
      exact pe
    · have h2b : (tx == [110, 101, 119]) = false := by simpa using h2
      simp only [ym, sS, sT, Int.reduceEq, reduceIte, ef h1, ef h2] at hl ⊢
      have HL := zm hl
      have HV : Hid (PV W0 _ kd tx nm ps ao ks.length cp) := zm ⟨ks, rfl, rfl, hK⟩
      have HS := ye.start (bs := bs) kd tx nm ps ao ks.length cp hN hB hp
      have ht : tx.length ≤ 1099511627776 := pl
      have hc5 : ¬ 9223372036854775807 < tx.length + 1 := om
      clear hp hB hK hl hN
      try clear h0
      try clear h1
      try clear h2
      try clear hz
      simp only [JF, JA]
      go_enter Tryz.func105, Tryz.ntmps105
      (go_wp2; go_region_held2 (fun w' => w'.cell? ⟨w.heap.size, 1, none⟩ = some (.string ⟨tx.toArray⟩)) (go_keep) (first | (go_at_call 36; (try simp only [ByteArray.mk_append_mk]); with_reducible refine (ye.s (ye.dr HS) pl).mono ?_; (try clear cc); clear HS; rintro e wn ⟨⟨v, rfl⟩, HS⟩; have cc := ye.cells HS)))
      (have hpj : plainJ .expr := fun _ _ => rfl; have hjf : JF .expr = 93 := rfl; have hen : Ent 93 := ent_of 93 dc; have HU := (RHk HR .expr (l := ks) (fun _ => trivial) (fun _ h => h)); have HQ := (PV.rv HV); go_wp2_with fail; with_reducible refine (ye.list .expr HS HQ hpj hjf hen HU pl).mono ?_; clear hpj hjf hen HU HQ; (try clear cc); clear HS; rintro e wn ⟨rfl, HS⟩; have cc := ye.cells HS)
      (go_wp2_with fail; with_reducible refine (ye.byte 41 HS dc pl).mono ?_; (try clear cc); clear HS; rintro e wn ⟨⟨v, rfl⟩, HS⟩; have cc := ye.cells HS)
      exact pe
theorem exprStmt_step {W0 : World} {N b : Nat} (hN : N = W0.heap.size) (digits : Int → List UInt8) (rec : PrJ → Nat → Tree → List UInt8) (d : Nat) (hd : d < 1152921504606846976) (t : Tree) (hr : RH W0 N b rec .exprStmt d t) (ho : okJ .exprStmt t) : JC W0 N b (ym digits rec) .exprStmt d t := by
  intro kd tx nm ps ks ao cp e hK bs w hB hp hl
  subst e
  have HR := zm hr
  clear hr
  by_cases k41 : kd = 41
  · subst k41
    have hkk : (Tree.mk 41 tx nm ps ks).kind ≠ 0 := by simp [Tree.kind]
    by_cases h1 : tx = [60, 45]
    · have h1b : (tx == [60, 45]) = true := by rw [h1]; rfl
      simp only [ym, sS, sT, Int.reduceEq, reduceIte, et h1] at hl ⊢
      have HL := zm hl
      have HV : Hid (PV W0 _ 41 tx nm ps ao ks.length cp) := zm ⟨ks, rfl, rfl, hK⟩
      have HS := ye.start (bs := bs) 41 tx nm ps ao ks.length cp hN hB hp
      clear hp hB hK hl hN
      try clear h0
      try clear h1
      try clear h2
      try clear hz
      simp only [JF, JA]
      go_enter Tryz.func113, Tryz.ntmps113
      (go_wp2_with fail; (try simp only [ByteArray.mk_append_mk]); with_reducible refine (ye.s HS pl).mono ?_; (try clear cc); clear HS; rintro e wn ⟨⟨v, rfl⟩, HS⟩; have cc := ye.cells HS)
      (go_wp2_with fail; with_reducible refine (ye.part 0 HS HV dc).mono ?_; (try clear cc); clear HS; rintro e wn ⟨⟨kd2, tx2, nm2, ps2, ao2, n2, cp2, rfl, HP⟩, HS⟩; have cc := ye.cells HS)
      (have HJ := ((zk (RHp HR .expr hkk 0 trivial)).pv HP); simp only [JF, JA] at HJ; go_wp2_with fail; with_reducible refine (ye.call HS HJ pl).mono ?_; (try clear cc); clear HS HJ; rintro e wn ⟨rfl, HS⟩; have cc := ye.cells HS)
      exact pe
    · have h1b : (tx == [60, 45]) = false := by simpa using h1
      simp only [ym, sS, sT, Int.reduceEq, reduceIte, ef h1] at hl ⊢
      have HL := zm hl
      have HV : Hid (PV W0 _ 41 tx nm ps ao ks.length cp) := zm ⟨ks, rfl, rfl, hK⟩
      have HS := ye.start (bs := bs) 41 tx nm ps ao ks.length cp hN hB hp
      clear hp hB hK hl hN
      try clear h0
      try clear h1
      try clear h2
      try clear hz
      simp only [JF, JA]
      go_enter Tryz.func113, Tryz.ntmps113
      (have HJ := ((zk (RHs HR .expr dc zM)).pv HV); simp only [JF, JA] at HJ; go_wp2_with fail; with_reducible refine (ye.call HS HJ pl).mono ?_; (try clear cc); clear HS HJ; rintro e wn ⟨rfl, HS⟩; have cc := ye.cells HS)
      exact pe
  · skip
    simp only [ym, sS, sT, Int.reduceEq, reduceIte, k41] at hl ⊢
    have HL := zm hl
    have HV : Hid (PV W0 _ kd tx nm ps ao ks.length cp) := zm ⟨ks, rfl, rfl, hK⟩
    have HS := ye.start (bs := bs) kd tx nm ps ao ks.length cp hN hB hp
    clear hp hB hK hl hN
    try clear h0
    try clear h1
    try clear h2
    try clear hz
    simp only [JF, JA]
    go_enter Tryz.func113, Tryz.ntmps113
    (have HJ := ((zk (RHs HR .expr dc zM)).pv HV); simp only [JF, JA] at HJ; go_wp2_with fail; with_reducible refine (ye.call HS HJ pl).mono ?_; (try clear cc); clear HS HJ; rintro e wn ⟨rfl, HS⟩; have cc := ye.cells HS)
    exact pe
end Go.Proofs.YtheknbfbneghgaaGreatDoor.Pp
set_option maxHeartbeats 8000000
set_option maxRecDepth 100000
namespace Go.Proofs.YtheknbfbneghgaaGreatDoor.Pp
open Go.RowKit Go.Proofs.YtheknbfbneghgaaGreatDoor.Lx Go.Proofs.YtheknbfbneghgaaGreatDoor.Px
theorem kind_mk (k : Int) (x : List UInt8) (n p : Int) (l : List Tree) : (Tree.mk k x n p l).kind = k := rfl
theorem forStmt_step {W0 : World} {N b : Nat} (hN : N = W0.heap.size) (digits : Int → List UInt8) (rec : PrJ → Nat → Tree → List UInt8) (d : Nat) (hd : d < 1152921504606846976) (t : Tree) (hr : RH W0 N b rec .forStmt d t) (ho : okJ .forStmt t) : JC W0 N b (ym digits rec) .forStmt d t := by
  intro kd tx nm ps ks ao cp e hK bs w hB hp hl
  subst e
  have HR := zm hr
  clear hr
  have hkk : (Tree.mk kd tx nm ps ks).kind ≠ 0 := ho
  by_cases h1 : (yM (.mk kd tx nm ps ks) 0).kind = 8
  · have h1b : ((yM (.mk kd tx nm ps ks) 0).kind == 8) = true := by rw [h1]; rfl
    by_cases h2 : (yM (.mk kd tx nm ps ks) 2).kind = 8
    · have h2b : ((yM (.mk kd tx nm ps ks) 2).kind == 8) = true := by rw [h2]; rfl
      simp only [ym, kind_mk, Tree.text, Tree.kids, Tree.num, Int.reduceEq, if_true, if_false, or_self, or_false, false_or, or_true, true_or, false_and, true_and, and_true, and_false, reduceIte, List.append_nil, List.nil_append, ne_eq, not_true_eq_false, not_false_eq_true, et h1, et h2] at hl ⊢
      have HL := zm hl
      have HV : Hid (PV W0 _ kd tx nm ps ao ks.length cp) := zm ⟨ks, rfl, rfl, hK⟩
      have HS := ye.start (bs := bs) kd tx nm ps ao ks.length cp hN hB hp
      clear hp hB hK hl hN
      try clear h0
      try clear h1
      try clear h2
      try clear hz
      simp only [JF, JA]
      go_enter Tryz.func95, Tryz.ntmps95
      (go_wp2_with fail; (try simp only [ByteArray.mk_append_mk]); with_reducible refine (ye.s HS pl).mono ?_; (try clear cc); clear HS; rintro e wn ⟨⟨v, rfl⟩, HS⟩; have cc := ye.cells HS)
      (go_wp2_with fail; with_reducible refine (ye.part 0 HS HV dc).mono ?_; (try clear cc); clear HS; rintro e wn ⟨⟨kd2, tx2, nm2, ps2, ao2, n2, cp2, rfl, HP⟩, HS⟩; have cc := ye.cells HS)
      (go_wp2_with fail; with_reducible refine (ye.isNone HS HP).mono ?_; (try clear cc); clear HS; rintro e wn ⟨rfl, HS⟩; have cc := ye.cells HS)
      (go_wp2_with fail; with_reducible refine (ye.part 2 HS HV dc).mono ?_; (try clear cc); clear HS; rintro e wn ⟨⟨kd2, tx2, nm2, ps2, ao2, n2, cp2, rfl, HP⟩, HS⟩; have cc := ye.cells HS)
      (go_wp2_with fail; with_reducible refine (ye.isNone HS HP).mono ?_; (try clear cc); clear HS; rintro e wn ⟨rfl, HS⟩; have cc := ye.cells HS)
      (go_wp2_with fail; with_reducible refine (ye.part 1 HS HV dc).mono ?_; (try clear cc); clear HS; rintro e wn ⟨⟨kd2, tx2, nm2, ps2, ao2, n2, cp2, rfl, HP⟩, HS⟩; have cc := ye.cells HS)
      (have hpj : plainJ .expr := fun _ _ => rfl; have hjf : JF .expr = 93 := rfl; have hen : Ent 93 := ent_of 93 dc; have HU := (RHp HR .expr hkk 1 trivial); go_wp2_with fail; with_reducible refine (ye.unl .expr HS HP hpj hjf hen HU pl).mono ?_; clear hpj hjf hen HU; (try clear cc); clear HS; rintro e wn ⟨rfl, HS⟩; have cc := ye.cells HS)
      (go_wp2_with fail; with_reducible refine (ye.byte 32 HS dc pl).mono ?_; (try clear cc); clear HS; rintro e wn ⟨⟨v, rfl⟩, HS⟩; have cc := ye.cells HS)
      (go_wp2_with fail; with_reducible refine (ye.part 3 HS HV dc).mono ?_; (try clear cc); clear HS; rintro e wn ⟨⟨kd2, tx2, nm2, ps2, ao2, n2, cp2, rfl, HP⟩, HS⟩; have cc := ye.cells HS)
      (have HJ := ((zk (RHp HR .block hkk 3 trivial)).pv HP); simp only [JF, JA] at HJ; go_wp2_with fail; with_reducible refine (ye.call HS HJ pl).mono ?_; (try clear cc); clear HS HJ; rintro e wn ⟨rfl, HS⟩; have cc := ye.cells HS)
      exact pe
    · have h2b : ((yM (.mk kd tx nm ps ks) 2).kind == 8) = false := by simpa using h2
      simp only [ym, kind_mk, Tree.text, Tree.kids, Tree.num, Int.reduceEq, if_true, if_false, or_self, or_false, false_or, or_true, true_or, false_and, true_and, and_true, and_false, reduceIte, List.append_nil, List.nil_append, ne_eq, not_true_eq_false, not_false_eq_true, et h1, ef h2] at hl ⊢
      have HL := zm hl
      have HV : Hid (PV W0 _ kd tx nm ps ao ks.length cp) := zm ⟨ks, rfl, rfl, hK⟩
      have HS := ye.start (bs := bs) kd tx nm ps ao ks.length cp hN hB hp
      clear hp hB hK hl hN
      try clear h0
      try clear h1
      try clear h2
      try clear hz
      simp only [JF, JA]
      go_enter Tryz.func95, Tryz.ntmps95
      (go_wp2_with fail; (try simp only [ByteArray.mk_append_mk]); with_reducible refine (ye.s HS pl).mono ?_; (try clear cc); clear HS; rintro e wn ⟨⟨v, rfl⟩, HS⟩; have cc := ye.cells HS)
      (go_wp2_with fail; with_reducible refine (ye.part 0 HS HV dc).mono ?_; (try clear cc); clear HS; rintro e wn ⟨⟨kd2, tx2, nm2, ps2, ao2, n2, cp2, rfl, HP⟩, HS⟩; have cc := ye.cells HS)
      (go_wp2_with fail; with_reducible refine (ye.isNone HS HP).mono ?_; (try clear cc); clear HS; rintro e wn ⟨rfl, HS⟩; have cc := ye.cells HS)
      (go_wp2_with fail; with_reducible refine (ye.part 2 HS HV dc).mono ?_; (try clear cc); clear HS; rintro e wn ⟨⟨kd2, tx2, nm2, ps2, ao2, n2, cp2, rfl, HP⟩, HS⟩; have cc := ye.cells HS)
      (go_wp2_with fail; with_reducible refine (ye.isNone HS HP).mono ?_; (try clear cc); clear HS; rintro e wn ⟨rfl, HS⟩; have cc := ye.cells HS)
      (have HJ := ((zk (RHs HR .forParts dc zM)).pv HV); simp only [JF, JA] at HJ; go_wp2_with fail; with_reducible refine (ye.call HS HJ pl).mono ?_; (try clear cc); clear HS HJ; rintro e wn ⟨rfl, HS⟩; have cc := ye.cells HS)
      (go_wp2_with fail; with_reducible refine (ye.byte 32 HS dc pl).mono ?_; (try clear cc); clear HS; rintro e wn ⟨⟨v, rfl⟩, HS⟩; have cc := ye.cells HS)
      (go_wp2_with fail; with_reducible refine (ye.part 3 HS HV dc).mono ?_; (try clear cc); clear HS; rintro e wn ⟨⟨kd2, tx2, nm2, ps2, ao2, n2, cp2, rfl, HP⟩, HS⟩; have cc := ye.cells HS)
      (have HJ := ((zk (RHp HR .block hkk 3 trivial)).pv HP); simp only [JF, JA] at HJ; go_wp2_with fail; with_reducible refine (ye.call HS HJ pl).mono ?_; (try clear cc); clear HS HJ; rintro e wn ⟨rfl, HS⟩; have cc := ye.cells HS)
      exact pe
  · have h1b : ((yM (.mk kd tx nm ps ks) 0).kind == 8) = false := by simpa using h1
    simp only [ym, kind_mk, Tree.text, Tree.kids, Tree.num, Int.reduceEq, if_true, if_false, or_self, or_false, false_or, or_true, true_or, false_and, true_and, and_true, and_false, reduceIte, List.append_nil, List.nil_append, ne_eq, not_true_eq_false, not_false_eq_true, ef h1] at hl ⊢
    have HL := zm hl
    have HV : Hid (PV W0 _ kd tx nm ps ao ks.length cp) := zm ⟨ks, rfl, rfl, hK⟩
    have HS := ye.start (bs := bs) kd tx nm ps ao ks.length cp hN hB hp
    clear hp hB hK hl hN
    try clear h0
    try clear h1
    try clear h2
    try clear hz
    simp only [JF, JA]
    go_enter Tryz.func95, Tryz.ntmps95
    (go_wp2_with fail; (try simp only [ByteArray.mk_append_mk]); with_reducible refine (ye.s HS pl).mono ?_; (try clear cc); clear HS; rintro e wn ⟨⟨v, rfl⟩, HS⟩; have cc := ye.cells HS)
    (go_wp2_with fail; with_reducible refine (ye.part 0 HS HV dc).mono ?_; (try clear cc); clear HS; rintro e wn ⟨⟨kd2, tx2, nm2, ps2, ao2, n2, cp2, rfl, HP⟩, HS⟩; have cc := ye.cells HS)
    (go_wp2_with fail; with_reducible refine (ye.isNone HS HP).mono ?_; (try clear cc); clear HS; rintro e wn ⟨rfl, HS⟩; have cc := ye.cells HS)
    (have HJ := ((zk (RHs HR .forParts dc zM)).pv HV); simp only [JF, JA] at HJ; go_wp2_with fail; with_reducible refine (ye.call HS HJ pl).mono ?_; (try clear cc); clear HS HJ; rintro e wn ⟨rfl, HS⟩; have cc := ye.cells HS)
    (go_wp2_with fail; with_reducible refine (ye.byte 32 HS dc pl).mono ?_; (try clear cc); clear HS; rintro e wn ⟨⟨v, rfl⟩, HS⟩; have cc := ye.cells HS)
    (go_wp2_with fail; with_reducible refine (ye.part 3 HS HV dc).mono ?_; (try clear cc); clear HS; rintro e wn ⟨⟨kd2, tx2, nm2, ps2, ao2, n2, cp2, rfl, HP⟩, HS⟩; have cc := ye.cells HS)
    (have HJ := ((zk (RHp HR .block hkk 3 trivial)).pv HP); simp only [JF, JA] at HJ; go_wp2_with fail; with_reducible refine (ye.call HS HJ pl).mono ?_; (try clear cc); clear HS HJ; rintro e wn ⟨rfl, HS⟩; have cc := ye.cells HS)
    exact pe
end Go.Proofs.YtheknbfbneghgaaGreatDoor.Pp
set_option maxHeartbeats 8000000
set_option maxRecDepth 100000
namespace Go.Proofs.YtheknbfbneghgaaGreatDoor.Pp
open Go.RowKit Go.Proofs.YtheknbfbneghgaaGreatDoor.Lx Go.Proofs.YtheknbfbneghgaaGreatDoor.Px
theorem comm_step {W0 : World} {N b : Nat} (hN : N = W0.heap.size) (digits : Int → List UInt8) (rec : PrJ → Nat → Tree → List UInt8) (d : Nat) (hd : d < 1152921504606846976) (t : Tree) (hr : RH W0 N b rec .comm d t) (ho : okJ .comm t) : JC W0 N b (ym digits rec) .comm d t := by
  intro kd tx nm ps ks ao cp e hK bs w hB hp hl
  subst e
  have HR := zm hr
  clear hr
  by_cases k26 : kd = 26
  · subst k26
    have hkk : (Tree.mk 26 tx nm ps ks).kind ≠ 0 := by simp [Tree.kind]
    by_cases h1 : tx = [114, 101, 99, 118]
    · have h1b : (tx == [114, 101, 99, 118]) = true := by rw [h1]; rfl
      simp only [ym, sS, sT, Int.reduceEq, reduceIte, et h1] at hl ⊢
      have HL := zm hl
      have HV : Hid (PV W0 _ 26 tx nm ps ao ks.length cp) := zm ⟨ks, rfl, rfl, hK⟩
      have HS := ye.start (bs := bs) 26 tx nm ps ao ks.length cp hN hB hp
      clear hp hB hK hl hN
      try clear h0
      try clear h1
      try clear h2
      try clear hz
      simp only [JF, JA]
      go_enter Tryz.func112, Tryz.ntmps112
      (have HJ := ((zk (RHs HR .receiving dc zM)).pv HV); simp only [JF, JA] at HJ; go_wp2_with fail; with_reducible refine (ye.call HS HJ pl).mono ?_; (try clear cc); clear HS HJ; rintro e wn ⟨rfl, HS⟩; have cc := ye.cells HS)
      exact pe
    · have h1b : (tx == [114, 101, 99, 118]) = false := by simpa using h1
      by_cases h2 : tx = [115, 101, 110, 100]
      · have h2b : (tx == [115, 101, 110, 100]) = true := by rw [h2]; rfl
        simp only [ym, sS, sT, Int.reduceEq, reduceIte, ef h1, et h2] at hl ⊢
        have HL := zm hl
        have HV : Hid (PV W0 _ 26 tx nm ps ao ks.length cp) := zm ⟨ks, rfl, rfl, hK⟩
        have HS := ye.start (bs := bs) 26 tx nm ps ao ks.length cp hN hB hp
        clear hp hB hK hl hN
        try clear h0
        try clear h1
        try clear h2
        try clear hz
        simp only [JF, JA]
        go_enter Tryz.func112, Tryz.ntmps112
        (go_wp2_with fail; with_reducible refine (ye.tabs HS pl).mono ?_; (try clear cc); clear HS; rintro e wn ⟨rfl, HS⟩; have cc := ye.cells HS)
        (go_wp2_with fail; (try simp only [ByteArray.mk_append_mk]); with_reducible refine (ye.s HS pl).mono ?_; (try clear cc); clear HS; rintro e wn ⟨⟨v, rfl⟩, HS⟩; have cc := ye.cells HS)
        (have HJ := ((zk (RHr HR (.both [60, 45]) (by simp [rnk]) zM)).pv HV); simp only [JF, JA] at HJ; go_wp2_with fail; with_reducible refine (ye.call HS HJ pl).mono ?_; (try clear cc); clear HS HJ; rintro e wn ⟨rfl, HS⟩; have cc := ye.cells HS)
        (go_wp2_with fail; with_reducible refine (ye.part 2 HS HV dc).mono ?_; (try clear cc); clear HS; rintro e wn ⟨⟨kd2, tx2, nm2, ps2, ao2, n2, cp2, rfl, HP⟩, HS⟩; have cc := ye.cells HS)
        (have HJ := ((zk (RHp HR .clauseStmts hkk 2 trivial)).pv HP); simp only [JF, JA] at HJ; go_wp2_with fail; with_reducible refine (ye.call HS HJ pl).mono ?_; (try clear cc); clear HS HJ; rintro e wn ⟨rfl, HS⟩; have cc := ye.cells HS)
        exact pe
      · have h2b : (tx == [115, 101, 110, 100]) = false := by simpa using h2
        by_cases h0 : tx = [100, 101, 102, 97, 117, 108, 116]
        · have h0b : (tx == [100, 101, 102, 97, 117, 108, 116]) = true := by rw [h0]; rfl
          simp only [ym, sS, sT, Int.reduceEq, reduceIte, ef h1, ef h2, et h0] at hl ⊢
          have HL := zm hl
          have HV : Hid (PV W0 _ 26 tx nm ps ao ks.length cp) := zm ⟨ks, rfl, rfl, hK⟩
          have HS := ye.start (bs := bs) 26 tx nm ps ao ks.length cp hN hB hp
          clear hp hB hK hl hN
          try clear h0
          try clear h1
          try clear h2
          try clear hz
          simp only [JF, JA]
          go_enter Tryz.func112, Tryz.ntmps112
          (go_wp2_with fail; with_reducible refine (ye.tabs HS pl).mono ?_; (try clear cc); clear HS; rintro e wn ⟨rfl, HS⟩; have cc := ye.cells HS)
          (go_wp2_with fail; (try simp only [ByteArray.mk_append_mk]); with_reducible refine (ye.s HS pl).mono ?_; (try clear cc); clear HS; rintro e wn ⟨⟨v, rfl⟩, HS⟩; have cc := ye.cells HS)
          (go_wp2_with fail; with_reducible refine (ye.part 0 HS HV dc).mono ?_; (try clear cc); clear HS; rintro e wn ⟨⟨kd2, tx2, nm2, ps2, ao2, n2, cp2, rfl, HP⟩, HS⟩; have cc := ye.cells HS)
          (have HJ := ((zk (RHp HR .clauseStmts hkk 0 trivial)).pv HP); simp only [JF, JA] at HJ; go_wp2_with fail; with_reducible refine (ye.call HS HJ pl).mono ?_; (try clear cc); clear HS HJ; rintro e wn ⟨rfl, HS⟩; have cc := ye.cells HS)
          exact pe
        · have h0b : (tx == [100, 101, 102, 97, 117, 108, 116]) = false := by simpa using h0
          simp only [ym, sS, sT, Int.reduceEq, reduceIte, ef h1, ef h2, ef h0] at hl ⊢
          have HL := zm hl
          have HV : Hid (PV W0 _ 26 tx nm ps ao ks.length cp) := zm ⟨ks, rfl, rfl, hK⟩
          have HS := ye.start (bs := bs) 26 tx nm ps ao ks.length cp hN hB hp
          clear hp hB hK hl hN
          try clear h0
          try clear h1
          try clear h2
          try clear hz
          simp only [JF, JA]
          go_enter Tryz.func112, Tryz.ntmps112
          (go_wp2_with fail; with_reducible refine (ye.unk HS pl).mono ?_; (try clear cc); clear HS; rintro e wn ⟨rfl, HS⟩; have cc := ye.cells HS)
          exact pe
  · skip
    simp only [ym, sS, sT, Int.reduceEq, reduceIte, k26] at hl ⊢
    have HL := zm hl
    have HV : Hid (PV W0 _ kd tx nm ps ao ks.length cp) := zm ⟨ks, rfl, rfl, hK⟩
    have HS := ye.start (bs := bs) kd tx nm ps ao ks.length cp hN hB hp
    clear hp hB hK hl hN
    try clear h0
    try clear h1
    try clear h2
    try clear hz
    simp only [JF, JA]
    go_enter Tryz.func112, Tryz.ntmps112
    (go_wp2_with fail; with_reducible refine (ye.unk HS pl).mono ?_; (try clear cc); clear HS; rintro e wn ⟨rfl, HS⟩; have cc := ye.cells HS)
    exact pe
end Go.Proofs.YtheknbfbneghgaaGreatDoor.Pp
set_option maxHeartbeats 8000000
set_option maxRecDepth 100000
namespace Go.Proofs.YtheknbfbneghgaaGreatDoor.Pp
open Go.RowKit Go.Proofs.YtheknbfbneghgaaGreatDoor.Lx Go.Proofs.YtheknbfbneghgaaGreatDoor.Px
theorem case_any (W0 : World) (N b : Nat) (hN : N = W0.heap.size) (f : Tree → List UInt8) (d : Nat) (l : List Tree) (a : Option Addr) (c : Nat) (bs : List UInt8) (w : World) (hI : IW W0 N b 93 f d l) (hk : KC W0 a l) (hm : l.length ≤ maxLen) (hB : Below N W0 w) (hp : PB N b d (Lib.byteCells bs) w) (hl : bs.length + ((if l.length = 0 then [63] else []) ++ sepJ (l.map f)).length ≤ 1099511627776) :
    Calls Tryz.prog 125 #[.pointer (some ⟨b, 0, none⟩), .slice a l.length c] w fun e w' => e = .returned (.tuple #[]) ∧ Wr N b bs ((if l.length = 0 then [63] else []) ++ sepJ (l.map f)) d w w' := by
  have hNw : N ≤ w.heap.size := by rw [hN]; exact hB.size
  by_cases h0 : l.length = 0
  · simp only [h0, if_true] at hl ⊢
    simp only [List.length_append, List.length_cons, List.length_nil] at hl
    have HU := zm (unknown_any N b bs d w hp om hNw)
    have HX := zm (fun (w1 : World) (h1 : Wr N b bs [63] d w w1) => list_any W0 N b 93 hN f d l a c (bs ++ [63]) w1 (ent_of 93 dc) hI hk hm (hB.trans h1.2.1) h1.1 (by simp only [List.length_append, List.length_cons, List.length_nil]; omega))
    rw [h0] at HX
    obtain ⟨y, hy⟩ : ∃ y, y = sepJ (l.map f) := ⟨_, rfl⟩
    rw [← hy] at HX ⊢
    clear hI hk hm hB hp hl hN hy h0
    go_enter Tryz.func125, Tryz.ntmps125
    go_wp2_with fail
    with_reducible refine (zk HU).mono ?_
    rintro e w1 ⟨rfl, h1⟩
    have H1 := zm h1
    have H2 := zm (zk HX w1 h1)
    clear h1
    go_wp2_with fail
    with_reducible refine (zk H2).mono ?_
    rintro e w2 ⟨rfl, h2⟩
    have H3 := zm ((zk H1).trans h2)
    clear h2
    go_wp2
    go_end0
    exact ⟨rfl, zk H3⟩
  · simp only [h0, if_false, List.nil_append] at hl ⊢
    have HX := zm (list_any W0 N b 93 hN f d l a c bs w (ent_of 93 dc) hI hk hm hB hp hl)
    obtain ⟨y, hy⟩ : ∃ y, y = sepJ (l.map f) := ⟨_, rfl⟩
    rw [← hy] at HX ⊢
    have h0i : ¬ (l.length : Int) = 0 := om
    clear hI hk hm hB hp hl hN hy
    go_enter Tryz.func125, Tryz.ntmps125
    go_wp2_with fail
    with_reducible refine (zk HX).mono ?_
    rintro e w2 ⟨rfl, h2⟩
    have H3 := zm h2
    clear h2
    go_wp2
    go_end0
    exact ⟨rfl, zk H3⟩
theorem ye.caseE {W0 : World} {N b : Nat} {bs X : List UInt8} {d : Nat} {w wr : World} {g : Nat} {kd : Int} {tx : List UInt8} {nm ps : Int} {ao : Option Addr} {n cp : Nat} {rec : PrJ → Nat → Tree → List UInt8} {l : List Tree} {a : Option Addr} {m c : Nat} (q : List UInt8) (h : Hid (ye W0 N b bs X d w wr g kd tx nm ps ao n cp)) (hq : Hid (RV W0 a m l)) (hJ : Hid (∀ t ∈ l, JC W0 N b rec .expr d t)) (hqe : q = if l.length = 0 then [63] else []) (hl : bs.length + (X.length + (q ++ sepJ (l.map (rec .expr d))).length) ≤ 1099511627776) :
    Calls Tryz.prog 125 #[.pointer (some ⟨b, 0, none⟩), .slice a m c] wr fun e w' => e = .returned (.tuple #[]) ∧ Hid (ye W0 N b bs (X ++ (q ++ sepJ (l.map (rec .expr d)))) d w w' g kd tx nm ps ao n cp) := by
  obtain ⟨hk, rfl, hm⟩ := zk hq
  subst hqe
  exact (case_any W0 N b (zk h).2.2.2.2.2 (rec .expr d) d l a c (bs ++ X) wr (iw_of (fun _ _ => rfl) (zk hJ)) hk hm (zk h).bel (zk h).1.1 (by simp only [List.length_append] at hl ⊢; omega)).mono fun e w' q => ⟨q.1, (zk h).to q.2⟩
theorem take_len (l : List Tree) : (l.take (l.length - 1)).length = l.length - 1 := by rw [List.length_take]; omega
theorem clause_step {W0 : World} {N b : Nat} (hN : N = W0.heap.size) (digits : Int → List UInt8) (rec : PrJ → Nat → Tree → List UInt8) (d : Nat) (hd : d < 1152921504606846976) (t : Tree) (hr : RH W0 N b rec .clause d t) (ho : okJ .clause t) : JC W0 N b (ym digits rec) .clause d t := by
  intro kd tx nm ps ks ao cp e hK bs w hB hp hl
  subst e
  have HR := zm hr
  clear hr
  by_cases k24 : kd = 24
  · subst k24
    have hkk : (Tree.mk 24 tx nm ps ks).kind ≠ 0 := by simp [Tree.kind]
    by_cases h1 : tx = [99, 97, 115, 101]
    · have h1b : (tx == [99, 97, 115, 101]) = true := by rw [h1]; rfl
      by_cases hz : ks.length - 1 = 0
      · have HQE := zm (show [63] = if (ks.take (ks.length - 1)).length = 0 then ([63] : List UInt8) else [] by rw [take_len, if_pos hz])
        simp only [ym, sS, sT, Int.reduceEq, reduceIte, et h1, et hz] at hl ⊢
        have HL := zm hl
        have HV : Hid (PV W0 _ 24 tx nm ps ao ks.length cp) := zm ⟨ks, rfl, rfl, hK⟩
        have HS := ye.start (bs := bs) 24 tx nm ps ao ks.length cp hN hB hp
        clear hp hB hK hl hN
        try clear h0
        try clear h1
        try clear h2
        try clear hz
        simp only [JF, JA]
        go_enter Tryz.func111, Tryz.ntmps111
        (go_wp2_with fail; with_reducible refine (ye.tabs HS pl).mono ?_; (try clear cc); clear HS; rintro e wn ⟨rfl, HS⟩; have cc := ye.cells HS)
        (go_wp2_with fail; (try simp only [ByteArray.mk_append_mk]); with_reducible refine (ye.s HS pl).mono ?_; (try clear cc); clear HS; rintro e wn ⟨⟨v, rfl⟩, HS⟩; have cc := ye.cells HS)
        (go_wp2_with fail; with_reducible refine (ye.until_ HS HV).mono ?_; (try clear cc); clear HS; rintro e wn ⟨⟨ar, nr, cr, rfl, HR2⟩, HS⟩; have cc := ye.cells HS)
        (have HU := (RHk HR .expr (l := ks.take (ks.length - 1)) (fun _ => trivial) (fun _ h => List.mem_of_mem_take h)); go_wp2_with fail; with_reducible refine (ye.caseE [63] HS HR2 HU (zk HQE) pl).mono ?_; clear HU; (try clear cc); clear HS; rintro e wn ⟨rfl, HS⟩; have cc := ye.cells HS)
        (go_wp2_with fail; with_reducible refine (ye.last HS HV).mono ?_; (try clear cc); clear HS; rintro e wn ⟨⟨kd2, tx2, nm2, ps2, ao2, n2, cp2, rfl, HP⟩, HS⟩; have cc := ye.cells HS)
        (have HJ := ((zk (RHp HR .clauseStmts hkk (ks.length - 1) trivial)).pv HP); simp only [JF, JA] at HJ; go_wp2_with fail; with_reducible refine (ye.call HS HJ pl).mono ?_; (try clear cc); clear HS HJ; rintro e wn ⟨rfl, HS⟩; have cc := ye.cells HS)
        exact pe
      · have HQE := zm (show [] = if (ks.take (ks.length - 1)).length = 0 then ([63] : List UInt8) else [] by rw [take_len, if_neg hz])
        simp only [ym, sS, sT, Int.reduceEq, reduceIte, et h1, ef hz] at hl ⊢
        have HL := zm hl
        have HV : Hid (PV W0 _ 24 tx nm ps ao ks.length cp) := zm ⟨ks, rfl, rfl, hK⟩
        have HS := ye.start (bs := bs) 24 tx nm ps ao ks.length cp hN hB hp
        clear hp hB hK hl hN
        try clear h0
        try clear h1
        try clear h2
        try clear hz
        simp only [JF, JA]
        go_enter Tryz.func111, Tryz.ntmps111
        (go_wp2_with fail; with_reducible refine (ye.tabs HS pl).mono ?_; (try clear cc); clear HS; rintro e wn ⟨rfl, HS⟩; have cc := ye.cells HS)
        (go_wp2_with fail; (try simp only [ByteArray.mk_append_mk]); with_reducible refine (ye.s HS pl).mono ?_; (try clear cc); clear HS; rintro e wn ⟨⟨v, rfl⟩, HS⟩; have cc := ye.cells HS)
        (go_wp2_with fail; with_reducible refine (ye.until_ HS HV).mono ?_; (try clear cc); clear HS; rintro e wn ⟨⟨ar, nr, cr, rfl, HR2⟩, HS⟩; have cc := ye.cells HS)
        (have HU := (RHk HR .expr (l := ks.take (ks.length - 1)) (fun _ => trivial) (fun _ h => List.mem_of_mem_take h)); go_wp2_with fail; with_reducible refine (ye.caseE [] HS HR2 HU (zk HQE) pl).mono ?_; clear HU; (try clear cc); clear HS; rintro e wn ⟨rfl, HS⟩; have cc := ye.cells HS)
        (go_wp2_with fail; with_reducible refine (ye.last HS HV).mono ?_; (try clear cc); clear HS; rintro e wn ⟨⟨kd2, tx2, nm2, ps2, ao2, n2, cp2, rfl, HP⟩, HS⟩; have cc := ye.cells HS)
        (have HJ := ((zk (RHp HR .clauseStmts hkk (ks.length - 1) trivial)).pv HP); simp only [JF, JA] at HJ; go_wp2_with fail; with_reducible refine (ye.call HS HJ pl).mono ?_; (try clear cc); clear HS HJ; rintro e wn ⟨rfl, HS⟩; have cc := ye.cells HS)
        exact pe
    · have h1b : (tx == [99, 97, 115, 101]) = false := by simpa using h1
      by_cases h2 : tx = [100, 101, 102, 97, 117, 108, 116]
      · have h2b : (tx == [100, 101, 102, 97, 117, 108, 116]) = true := by rw [h2]; rfl
        simp only [ym, sS, sT, Int.reduceEq, reduceIte, ef h1, et h2] at hl ⊢
        have HL := zm hl
        have HV : Hid (PV W0 _ 24 tx nm ps ao ks.length cp) := zm ⟨ks, rfl, rfl, hK⟩
        have HS := ye.start (bs := bs) 24 tx nm ps ao ks.length cp hN hB hp
        clear hp hB hK hl hN
        try clear h0
        try clear h1
        try clear h2
        try clear hz
        simp only [JF, JA]
        go_enter Tryz.func111, Tryz.ntmps111
        (go_wp2_with fail; with_reducible refine (ye.tabs HS pl).mono ?_; (try clear cc); clear HS; rintro e wn ⟨rfl, HS⟩; have cc := ye.cells HS)
        (go_wp2_with fail; (try simp only [ByteArray.mk_append_mk]); with_reducible refine (ye.s HS pl).mono ?_; (try clear cc); clear HS; rintro e wn ⟨⟨v, rfl⟩, HS⟩; have cc := ye.cells HS)
        (go_wp2_with fail; with_reducible refine (ye.last HS HV).mono ?_; (try clear cc); clear HS; rintro e wn ⟨⟨kd2, tx2, nm2, ps2, ao2, n2, cp2, rfl, HP⟩, HS⟩; have cc := ye.cells HS)
        (have HJ := ((zk (RHp HR .clauseStmts hkk (ks.length - 1) trivial)).pv HP); simp only [JF, JA] at HJ; go_wp2_with fail; with_reducible refine (ye.call HS HJ pl).mono ?_; (try clear cc); clear HS HJ; rintro e wn ⟨rfl, HS⟩; have cc := ye.cells HS)
        exact pe
      · have h2b : (tx == [100, 101, 102, 97, 117, 108, 116]) = false := by simpa using h2
        simp only [ym, sS, sT, Int.reduceEq, reduceIte, ef h1, ef h2] at hl ⊢
        have HL := zm hl
        have HV : Hid (PV W0 _ 24 tx nm ps ao ks.length cp) := zm ⟨ks, rfl, rfl, hK⟩
        have HS := ye.start (bs := bs) 24 tx nm ps ao ks.length cp hN hB hp
        clear hp hB hK hl hN
        try clear h0
        try clear h1
        try clear h2
        try clear hz
        simp only [JF, JA]
        go_enter Tryz.func111, Tryz.ntmps111
        (go_wp2_with fail; with_reducible refine (ye.unk HS pl).mono ?_; (try clear cc); clear HS; rintro e wn ⟨rfl, HS⟩; have cc := ye.cells HS)
        exact pe
  · skip
    simp only [ym, sS, sT, Int.reduceEq, reduceIte, k24] at hl ⊢
    have HL := zm hl
    have HV : Hid (PV W0 _ kd tx nm ps ao ks.length cp) := zm ⟨ks, rfl, rfl, hK⟩
    have HS := ye.start (bs := bs) kd tx nm ps ao ks.length cp hN hB hp
    clear hp hB hK hl hN
    try clear h0
    try clear h1
    try clear h2
    try clear hz
    simp only [JF, JA]
    go_enter Tryz.func111, Tryz.ntmps111
    (go_wp2_with fail; with_reducible refine (ye.unk HS pl).mono ?_; (try clear cc); clear HS; rintro e wn ⟨rfl, HS⟩; have cc := ye.cells HS)
    exact pe
end Go.Proofs.YtheknbfbneghgaaGreatDoor.Pp
set_option maxHeartbeats 2000000
set_option maxRecDepth 100000
namespace Go.Proofs.YtheknbfbneghgaaGreatDoor.Pp
open Go.RowKit Go.Proofs.YtheknbfbneghgaaGreatDoor.Lx Go.Proofs.YtheknbfbneghgaaGreatDoor.Px
theorem q_take {tx : List UInt8} {j : Nat} {c : UInt8} (h : tx[j]? = some c) : (tx.take (j + 1)).flatMap qB = (tx.take j).flatMap qB ++ qB c := by
  rw [List.take_add_one, h]; simp
theorem q_le (l : List UInt8) (j : Nat) : ((l.take j).flatMap qB).length ≤ (l.flatMap qB).length := by
  have h : (l.take j ++ l.drop j).flatMap qB = l.flatMap qB := by rw [List.take_append_drop]
  rw [← h, List.flatMap_append, List.length_append]; omega
theorem qB_len (c : UInt8) : 1 ≤ (qB c).length := by unfold qB; split; simp; split; simp; split <;> simp
theorem q_len (l : List UInt8) : l.length ≤ (l.flatMap qB).length := by
  induction l with
  | nil => simp
  | cons c r ih => have := qB_len c; simp only [List.flatMap_cons, List.length_cons, List.length_append]; omega
theorem quoted_any (W0 : World) (N b : Nat) (hN : N = W0.heap.size) (d : Nat) (tx bs : List UInt8) (w : World) (hB : Below N W0 w) (hp : PB N b d (Lib.byteCells bs) w) (hl : bs.length + (quoT tx).length ≤ 1099511627776) :
    Calls Tryz.prog 103 #[.pointer (some ⟨b, 0, none⟩), .string ⟨tx.toArray⟩] w fun e w' => e = .returned (.tuple #[]) ∧ Wr N b bs (quoT tx) d w w' := by
  have hNw : N ≤ w.heap.size := by rw [hN]; exact hB.size
  have hql := q_len tx
  simp only [quoT, List.length_cons, List.length_append, List.length_nil] at hl
  have H0 := zm (wbk N b bs 34 34 rfl d w hp om hNw)
  have hnb : tx.length ≤ 1099511627776 := om
  have HL := zm hl
  clear hp hB hN hl hql
  go_enter Tryz.func103, Tryz.ntmps103
  go_wp2_with fail
  with_reducible refine (zk H0).mono ?_
  rintro e w1 ⟨⟨v, rfl⟩, h1⟩
  have H1 := zm h1
  clear h1
  go_wp2
  go_loopw [11] (fun i wr => ∃ (j : Nat), j ≤ tx.length ∧ i = .int .i64 j ∧ Hid (Wr N b bs ([34] ++ (tx.take j).flatMap qB) d w wr)) (fun i _ => tx.length - (intOf i).toNat)
  case atStart => exact ⟨0, Nat.zero_le _, rfl, by simpa only [List.take_zero, List.flatMap_nil, List.append_nil] using H1⟩
  case round =>
    obtain ⟨j, hj, rfl, hW⟩ := hrel
    have hws := (zk hW).size
    by_cases hlt : j < tx.length
    · have hji : (j : Int) < (tx.length : Int) := om
      have ek : tx[j]? = some tx[j] := List.getElem?_eq_getElem hlt
      obtain ⟨c, hc⟩ : ∃ c, c = tx[j] := ⟨_, rfl⟩
      rw [← hc] at ek
      have hts := q_take ek
      have hle := q_le tx (j + 1)
      rw [hts] at hle
      simp only [List.length_append] at hle
      have hidx : ∀ (h : j < (⟨tx.toArray⟩ : ByteArray).size), (⟨tx.toArray⟩ : ByteArray)[j] = c := fun h => hc.symm
      have hql := qB_len c
      by_cases h10 : c = 10
      · have hT : (tx.take (j + 1)).flatMap qB = (tx.take j).flatMap qB ++ [92, 110] := by rw [hts, h10]; rfl
        have hL : (qB c).length = 2 := by rw [h10]; rfl
        have HTT := zm hT
        have f10 : ((c.toNat : Int) == 10) = true := by rw [h10]; rfl
        have HS := zm (ws N b _ [92, 110] d wr (zk hW).1 zO om)
        clear hts hT hle hc ek h10 hL
        go_wp2_with fail
        with_reducible refine (zk HS).mono ?_
        rintro e w2 ⟨⟨v, rfl⟩, h2⟩
        have H2 := zm ((zk hW).trans h2)
        clear h2
        go_wp2
        go_roundw
        case rel => exact ⟨j + 1, om, by go_num, zm zd⟩
        case measure => simp [intOf]; omega
      · skip
        by_cases h34 : c = 34
        · have hT : (tx.take (j + 1)).flatMap qB = (tx.take j).flatMap qB ++ [92, 34] := by rw [hts, h34]; rfl
          have hL : (qB c).length = 2 := by rw [h34]; rfl
          have HTT := zm hT
          have f34 : ((c.toNat : Int) == 34) = true := by rw [h34]; rfl
          have f10 : ((c.toNat : Int) == 10) = false := by rw [h34]; rfl
          have HS := zm (ws N b _ [92, 34] d wr (zk hW).1 zO om)
          clear hts hT hle hc ek h34 hL
          go_wp2_with fail
          with_reducible refine (zk HS).mono ?_
          rintro e w2 ⟨⟨v, rfl⟩, h2⟩
          have H2 := zm ((zk hW).trans h2)
          clear h2
          go_wp2
          go_roundw
          case rel => exact ⟨j + 1, om, by go_num, zm zd⟩
          case measure => simp [intOf]; omega
        · skip
          by_cases h92 : c = 92
          · have hT : (tx.take (j + 1)).flatMap qB = (tx.take j).flatMap qB ++ [92, 92] := by rw [hts, h92]; rfl
            have hL : (qB c).length = 2 := by rw [h92]; rfl
            have HTT := zm hT
            have f92 : ((c.toNat : Int) == 92) = true := by rw [h92]; rfl
            have f10 : ((c.toNat : Int) == 10) = false := by rw [h92]; rfl
            have f34 : ((c.toNat : Int) == 34) = false := by rw [h92]; rfl
            have HS := zm (ws N b _ [92, 92] d wr (zk hW).1 zO om)
            clear hts hT hle hc ek h92 hL
            go_wp2_with fail
            with_reducible refine (zk HS).mono ?_
            rintro e w2 ⟨⟨v, rfl⟩, h2⟩
            have H2 := zm ((zk hW).trans h2)
            clear h2
            go_wp2
            go_roundw
            case rel => exact ⟨j + 1, om, by go_num, zm zd⟩
            case measure => simp [intOf]; omega
          · skip
            have hq : qB c = [c] := by unfold qB; rw [if_neg h10, if_neg h34, if_neg h92]
            rw [hq] at hts hle
            have HTT := zm hts
            have fk : ∀ k : UInt8, ¬ c = k → ((c.toNat : Int) == (k.toNat : Int)) = false := fun k hk => by
              have : ¬ c.toNat = k.toNat := fun e => hk (UInt8.toNat_inj.1 e)
              simp only [beq_eq_false_iff_ne, ne_eq]
              omega
            have f10 : ((c.toNat : Int) == 10) = false := fk 10 h10
            have f34 : ((c.toNat : Int) == 34) = false := fk 34 h34
            have f92 : ((c.toNat : Int) == 92) = false := fk 92 h92
            have HS := zm (fun wx (hx : Wr N b bs ([34] ++ (tx.take j).flatMap qB) d w wx) => wb N b _ c d wx hx.1 (by have h2 := zk HL; simp only [List.length_append, List.length_cons, List.length_nil] at h2 hle ⊢; omega) (by have := hx.size; omega))
            clear hts hle hc ek h10 h34 h92 hq hql fk
            go_wp2_with fail
            go_region_held2 (fun _ => True) (trivial) (first | (go_at_call 26; with_reducible refine (zk HS _ ((zk hW).quiet (zz (zo _ _)) hNw)).mono ?_; rintro e w2 ⟨⟨v, rfl⟩, h2⟩; have H2 := zm (((zk hW).quiet (zz (zo _ _)) hNw).trans h2); clear h2))
            go_wp2
            go_roundw
            case rel => exact ⟨j + 1, om, by go_num, zm zd⟩
            case measure => simp [intOf]; omega
    · obtain rfl : j = tx.length := om
      have hji : ¬ (tx.length : Int) < (tx.length : Int) := om
      have hW2 := zk hW
      rw [List.take_length] at hW2
      have HW2 := zm hW2
      have HY := zm (wbk N b _ 34 34 rfl d wr hW2.1 zO om)
      clear hW2
      go_wp2_with fail
      with_reducible refine (zk HY).mono ?_
      rintro e w5 ⟨⟨v, rfl⟩, h5⟩
      have H5 := zm ((zk HW2).trans h5)
      clear h5
      go_wp2
      go_end0
      exact ⟨rfl, by simpa [quoT] using zk H5⟩
end Go.Proofs.YtheknbfbneghgaaGreatDoor.Pp
set_option maxHeartbeats 8000000
set_option maxRecDepth 100000
namespace Go.Proofs.YtheknbfbneghgaaGreatDoor.Pp
open Go.RowKit Go.Proofs.YtheknbfbneghgaaGreatDoor.Lx Go.Proofs.YtheknbfbneghgaaGreatDoor.Px
theorem file_step {W0 : World} {N b : Nat} (hN : N = W0.heap.size) (digits : Int → List UInt8) (rec : PrJ → Nat → Tree → List UInt8) (d : Nat) (hd : d < 1152921504606846976) (t : Tree) (hr : RH W0 N b rec .file d t) (ho : okJ .file t) : JC W0 N b (ym digits rec) .file d t := by
  intro kd tx nm ps ks ao cp e hK bs w hB hp hl
  subst e
  by_cases h1 : kd = 1
  · subst h1
    simp only [ym, Tree.kind, Tree.kids, if_true] at hl ⊢
    have hI : ∀ s ∈ ks, JC W0 N b rec .decl d s := fun s m => hr .decl d s (need_kid m _ _) trivial (.inl rfl) (.inr (.inl m))
    have HI := zm (iw_of (fun _ _ => rfl) hI)
    have hk := KC.of hK
    have hm := hK.few
    unfold maxLen at hm
    have hNw : N ≤ w.heap.size := by rw [hN]; exact hB.size
    have hbw := hp.lt
    have hS := ye.start (bs := bs) 1 tx nm ps ao ks.length cp hN hB hp
    have H0 := zm (zk hS).1
    have HK := zm hk
    have HB := zm hB
    obtain ⟨g, hg⟩ : ∃ g : Tree → List UInt8, g = fun t => rec .decl d t ++ [10] := ⟨_, rfl⟩
    have HGT := zm (fun t => by rw [hg] : ∀ t, g t = rec .decl d t ++ [10])
    rw [← hg] at hl ⊢
    have HL := zm hl
    obtain ⟨n, hn⟩ : ∃ n, n = ks.length := ⟨_, rfl⟩
    have HN : Hid (ks.length = n) := zm hn.symm
    have HNN := zm hN
    simp only [JF, JA]
    rw [← hn] at hm ⊢
    rw [← hn] at H0
    obtain ⟨l, hll⟩ : ∃ l, l = ks := ⟨_, rfl⟩
    rw [← hll] at HI HK HL HN ⊢
    clear hp hr hI hk hB hl hn hN hg hS hK hll ho
    go_enter Tryz.func14, Tryz.ntmps14
    go_wp2
    go_loopw [14] (fun i wr => ∃ (j : Nat), j ≤ n ∧ i = .int .i64 j ∧ Hid (Wr N b bs ((l.take j).flatMap g) d w wr)) (fun i _ => n - (intOf i).toNat)
    case atStart => exact ⟨0, Nat.zero_le _, rfl, by simpa only [List.take_zero, List.flatMap_nil] using H0⟩
    case round =>
      obtain ⟨j, hj, rfl, hW⟩ := hrel
      have hws := (zk hW).size
      by_cases hlt : j < n
      · have hji : (j : Int) < (n : Int) := om
        have hjL : j < l.length := by have := zk HN; omega
        obtain ⟨kd, tx2, nm2, ps2, ks2, ek⟩ : ∃ a b c d e, l[j]? = some (Px.Tree.mk a b c d e) := by
          rw [List.getElem?_eq_getElem hjL]; cases l[j] with | mk a b c d e => exact ⟨a, b, c, d, e, rfl⟩
        obtain ⟨gb, off, ao2, cp2, rfl, q3, Q, qc⟩ := zk HK j _ _ _ _ _ ek
        have hcell : ∀ i, i < 7 → wr.cell? ⟨gb, off + j * 7 + i, none⟩ = (nodeC kd tx2 nm2 ps2 (.slice ao2 ks2.length cp2))[i]? := fun i hi => by
          rw [Nat.add_assoc]
          have hb := (zk HB).trans (zk hW).2.1
          rw [World.cell?_of_block (w := W0) (a := ⟨gb, off + (j * 7 + i), none⟩) (hb.block gb (by rw [zk HNN]; exact q3))]
          exact qc i hi
        have a0 := hcell 0 om
        have a1 := hcell 1 om
        have a2 := hcell 2 om
        have a3 := hcell 3 om
        have a4 := hcell 4 om
        have a5 := hcell 5 om
        have a6 := hcell 6 om
        simp only [nodeC, List.getElem?_cons_zero, List.getElem?_cons_succ, Nat.add_zero] at a0 a1 a2 a3 a4 a5 a6
        have hmem : Tree.mk kd tx2 nm2 ps2 ks2 ∈ l := List.mem_of_getElem? ek
        have hts := flat_take (f := g) ek
        have hle := flat_le (f := g) l (j + 1)
        have HTS := zm hts
        rw [hts] at hle
        rw [zk HGT] at hle hts
        simp only [List.length_append, List.length_cons, List.length_nil] at hle
        have HTS2 := zm hts
        have hA : Wr N b bs ((l.take j).flatMap g) d w (wr.alloc (nO kd tx2 nm2 ps2 ao2 ks2.length cp2)) := (zk hW).quiet (zr (zo _ _) _) hNw
        have HA := zm hA
        have hne : wr.heap.size ≠ b := om
        have HX := zm (zk HI kd tx2 nm2 ps2 ks2 ao2 cp2 _ _ hmem Q ((zk HB).trans hA.2.1) hA.1 (by have h2 := zk HL; simp only [List.length_append] at h2 ⊢; omega))
        simp only [JF] at HX
        obtain ⟨ft, hft⟩ : ∃ ft, ft = rec .decl d (.mk kd tx2 nm2 ps2 ks2) := ⟨_, rfl⟩
        rw [← hft] at HX HTS2 hle
        have HLE := zm hle
        clear ek Q qc hcell hjL hle hts hA hmem hft HTS
        have HTS := HTS2
        clear HTS2
        by_cases h0 : j = 0
        · subst h0
          simp only [Nat.zero_mul, Nat.add_zero] at a0 a1 a2 a3 a4 a5 a6
          go_wp2_with fail
          with_reducible refine (zk HX).mono ?_
          rintro e w3 ⟨rfl, h3⟩
          have h4 := (zk HA).trans h3
          have H4 := zm h4
          have HY := zm (wbk N b _ 10 10 rfl d w3 h4.1 (by have h2 := zk HL; simp only [List.length_append, List.length_cons, List.length_nil] at h2 ⊢; have := zk HLE; omega) (by have := h4.size; omega))
          clear h3 h4
          go_wp2_with fail
          with_reducible refine (zk HY).mono ?_
          rintro e w5 ⟨⟨v, rfl⟩, h5⟩
          have H5 := zm ((zk H4).trans h5)
          clear h5
          go_wp2
          go_roundw
          case rel => exact ⟨1, om, by go_num, zm (by have := zk H5; rw [List.append_assoc] at this; rwa [zk HTS])⟩
          case measure => simp [intOf]; omega
        · skip
          go_wp2_with fail
          with_reducible refine (zk HX).mono ?_
          rintro e w3 ⟨rfl, h3⟩
          have h4 := (zk HA).trans h3
          have H4 := zm h4
          have HY := zm (wbk N b _ 10 10 rfl d w3 h4.1 (by have h2 := zk HL; simp only [List.length_append, List.length_cons, List.length_nil] at h2 ⊢; have := zk HLE; omega) (by have := h4.size; omega))
          clear h3 h4
          go_wp2_with fail
          with_reducible refine (zk HY).mono ?_
          rintro e w5 ⟨⟨v, rfl⟩, h5⟩
          have H5 := zm ((zk H4).trans h5)
          clear h5
          go_wp2
          go_roundw
          case rel => exact ⟨j + 1, om, by go_num, zm (by have := zk H5; rw [List.append_assoc] at this; rwa [zk HTS])⟩
          case measure => simp [intOf]; omega
      · obtain rfl : j = n := om
        have hji : ¬ (j : Int) < (j : Int) := om
        have hW2 := zk hW
        rw [List.take_of_length_le (by have := zk HN; omega)] at hW2
        have HW2 := zm hW2
        clear hW2
        go_wp2
        go_end0
        exact ⟨rfl, zk HW2⟩
  · have HR := zm hr
    simp only [ym, Tree.kind, Tree.kids, h1, if_false] at hl ⊢
    have HL := zm hl
    have HS := ye.start (bs := bs) kd tx nm ps ao ks.length cp hN hB hp
    clear hp hB hK hl hr hN
    simp only [JF, JA]
    go_enter Tryz.func14, Tryz.ntmps14
    (go_wp2_with fail; with_reducible refine (ye.unk HS pl).mono ?_; (try clear cc); clear HS; rintro e wn ⟨rfl, HS⟩; have cc := ye.cells HS)
    exact pe
end Go.Proofs.YtheknbfbneghgaaGreatDoor.Pp
set_option maxHeartbeats 8000000
set_option maxRecDepth 100000
namespace Go.Proofs.YtheknbfbneghgaaGreatDoor.Pp
open Go.RowKit Go.Proofs.YtheknbfbneghgaaGreatDoor.Lx Go.Proofs.YtheknbfbneghgaaGreatDoor.Px
theorem text_mk2 (k : Int) (x : List UInt8) (n p : Int) (l : List Tree) : (Tree.mk k x n p l).text = x := rfl
theorem kind_mk2 (k : Int) (x : List UInt8) (n p : Int) (l : List Tree) : (Tree.mk k x n p l).kind = k := rfl
theorem new_drew (w : World) (o : Obj) : (w.alloc o).drew.heap[w.heap.size]? = some o := yW w o rfl
theorem ye.sx {W0 : World} {N b : Nat} {bs X : List UInt8} {d : Nat} {w wr : World} {g : Nat} {kd : Int} {tx : List UInt8} {nm ps : Int} {ao : Option Addr} {n cp : Nat} {s : List UInt8} (h : Hid (ye W0 N b bs X d w wr g kd tx nm ps ao n cp)) (hl : bs.length + (X.length + s.length) ≤ 1099511627776) :
    Calls Tryz.prog 36 #[.pointer (some ⟨b, 0, none⟩), .string ⟨s.toArray⟩] wr fun e w' => (∃ v, e = .returned v) ∧ Hid (ye W0 N b bs (X ++ s) d w w' g kd tx nm ps ao n cp) ∧ ∀ g' cs t, wr.heap[g']? = some (.cells cs t) → g' ≠ b → t ≠ 5 → w'.heap[g']? = some (.cells cs t) :=
  (ws N b (bs ++ X) s d wr (zk h).1.1 zi (zk h).big).mono fun e w' q => ⟨q.1, (zk h).to q.2, fun g' cs t h1 h2 h3 => q.2.blk h1 h2 h3⟩
theorem receiving_step {W0 : World} {N b : Nat} (hN : N = W0.heap.size) (digits : Int → List UInt8) (rec : PrJ → Nat → Tree → List UInt8) (d : Nat) (hd : d < 1152921504606846976) (t : Tree) (hr : RH W0 N b rec .receiving d t) (ho : okJ .receiving t) : JC W0 N b (ym digits rec) .receiving d t := by
  intro kd tx nm ps ks ao cp e hK bs w hB hp hl
  subst e
  have HR := zm hr
  clear hr
  have hkk : (Tree.mk kd tx nm ps ks).kind ≠ 0 := ho
  obtain ⟨kd0, tx0, nm0, ps0, ks0, e0⟩ : ∃ a b c d e, yM (.mk kd tx nm ps ks) 0 = Tree.mk a b c d e := by cases yM (.mk kd tx nm ps ks) 0 with | mk a b c d e => exact ⟨a, b, c, d, e, rfl⟩
  have hk0 : (yM (.mk kd tx nm ps ks) 0).kind = kd0 := by rw [e0]; rfl
  have htx0 : (yM (.mk kd tx nm ps ks) 0).text = tx0 := by rw [e0]; rfl
  have E0 := zm e0
  clear e0
  by_cases hk7 : kd0 = 7
  · subst hk7
    simp only [ym, kind_mk2, text_mk2, Tree.kids, Tree.num, Int.reduceEq, if_true, if_false, or_self, or_false, false_or, or_true, true_or, false_and, true_and, and_true, and_false, reduceIte, List.append_nil, List.nil_append, ne_eq, not_true_eq_false, not_false_eq_true, hk0, htx0] at hl ⊢
    have HL := zm hl
    have HV : Hid (PV W0 _ kd tx nm ps ao ks.length cp) := zm ⟨ks, rfl, rfl, hK⟩
    have HS := ye.start (bs := bs) kd tx nm ps ao ks.length cp hN hB hp
    have ht : tx0.length ≤ 1099511627776 := pl
    have hc1 : ¬ 9223372036854775807 < tx0.length + 4 := om
    clear hk0 htx0
    clear hp hB hK hl hN
    try clear h0
    try clear h1
    try clear h2
    try clear hz
    simp only [JF, JA]
    go_enter Tryz.func127, Tryz.ntmps127
    (go_wp2_with fail; with_reducible refine (ye.tabs HS pl).mono ?_; (try clear cc); clear HS; rintro e wn ⟨rfl, HS⟩; have cc := ye.cells HS)
    (go_wp2_with fail; (try simp only [ByteArray.mk_append_mk]); with_reducible refine (ye.s HS pl).mono ?_; (try clear cc); clear HS; rintro e wn ⟨⟨v, rfl⟩, HS⟩; have cc := ye.cells HS)
    (go_wp2_with fail; with_reducible refine (ye.part 0 HS HV dc).mono ?_; (try clear cc); clear HS; rintro e wn ⟨⟨kd2, tx2, nm2, ps2, ao2, n2, cp2, rfl, HP⟩, HS⟩; have cc := ye.cells HS)
    have hq2 : kd2 = 7 ∧ tx2 = tx0 := by obtain ⟨_, e, _⟩ := zk HP; rw [zk E0] at e; simp only [Tree.mk.injEq] at e; exact ⟨e.1.symm, e.2.1.symm⟩
    obtain ⟨rfl, rfl⟩ := hq2
    have ha := zr (zo wn none) (nO 7 tx2 nm2 ps2 ao2 n2 cp2)
    have hbn : wn.heap.size ≠ b := by have := (zk HS).1.1.lt; omega
    replace HS := (zk HS).qu ha
    clear ha
    (try clear cc)
    have cc := ye.cells HS
    go_wp2_with fail
    go_region_held2 (fun w' => w'.cell? ⟨wn.heap.size, 1, none⟩ = some (.string ⟨tx2.toArray⟩)) (go_keep) (first | (go_at_call 36; (try simp only [ByteArray.mk_append_mk]); with_reducible refine (ye.sx (ye.dr HS) pl).mono ?_; (try clear cc); clear HS; rintro e wn2 ⟨⟨v, rfl⟩, HS, hx⟩; have q1 := (cells7 (hx wn.heap.size _ 25 (new_drew wn (nO 7 tx2 nm2 ps2 ao2 n2 cp2)) hbn dc)).2.1; clear hx; have cc := ye.cells HS))
    (go_wp2_with fail; (try simp only [ByteArray.mk_append_mk]); with_reducible refine (ye.s HS pl).mono ?_; (try clear cc); clear HS; rintro e wn ⟨⟨v, rfl⟩, HS⟩; have cc := ye.cells HS)
    (go_wp2_with fail; with_reducible refine (ye.part 1 HS HV dc).mono ?_; (try clear cc); clear HS; rintro e wn ⟨⟨kd2, tx2, nm2, ps2, ao2, n2, cp2, rfl, HP⟩, HS⟩; have cc := ye.cells HS)
    (have HJ := ((zk (RHp HR .expr hkk 1 trivial)).pv HP); simp only [JF, JA] at HJ; go_wp2_with fail; with_reducible refine (ye.call HS HJ pl).mono ?_; (try clear cc); clear HS HJ; rintro e wn ⟨rfl, HS⟩; have cc := ye.cells HS)
    (go_wp2_with fail; with_reducible refine (ye.part 2 HS HV dc).mono ?_; (try clear cc); clear HS; rintro e wn ⟨⟨kd2, tx2, nm2, ps2, ao2, n2, cp2, rfl, HP⟩, HS⟩; have cc := ye.cells HS)
    (have HJ := ((zk (RHp HR .clauseStmts hkk 2 trivial)).pv HP); simp only [JF, JA] at HJ; go_wp2_with fail; with_reducible refine (ye.call HS HJ pl).mono ?_; (try clear cc); clear HS HJ; rintro e wn ⟨rfl, HS⟩; have cc := ye.cells HS)
    exact pe
  · skip
    simp only [ym, kind_mk2, text_mk2, Tree.kids, Tree.num, Int.reduceEq, if_true, if_false, or_self, or_false, false_or, or_true, true_or, false_and, true_and, and_true, and_false, reduceIte, List.append_nil, List.nil_append, ne_eq, not_true_eq_false, not_false_eq_true, hk0, htx0, hk7] at hl ⊢
    have HL := zm hl
    have HV : Hid (PV W0 _ kd tx nm ps ao ks.length cp) := zm ⟨ks, rfl, rfl, hK⟩
    have HS := ye.start (bs := bs) kd tx nm ps ao ks.length cp hN hB hp
    clear hk0 htx0
    clear hp hB hK hl hN
    try clear h0
    try clear h1
    try clear h2
    try clear hz
    simp only [JF, JA]
    go_enter Tryz.func127, Tryz.ntmps127
    (go_wp2_with fail; with_reducible refine (ye.tabs HS pl).mono ?_; (try clear cc); clear HS; rintro e wn ⟨rfl, HS⟩; have cc := ye.cells HS)
    (go_wp2_with fail; (try simp only [ByteArray.mk_append_mk]); with_reducible refine (ye.s HS pl).mono ?_; (try clear cc); clear HS; rintro e wn ⟨⟨v, rfl⟩, HS⟩; have cc := ye.cells HS)
    (go_wp2_with fail; with_reducible refine (ye.part 0 HS HV dc).mono ?_; (try clear cc); clear HS; rintro e wn ⟨⟨kd2, tx2, nm2, ps2, ao2, n2, cp2, rfl, HP⟩, HS⟩; have cc := ye.cells HS)
    have hq2 : kd2 = kd0 ∧ tx2 = tx0 := by obtain ⟨_, e, _⟩ := zk HP; rw [zk E0] at e; simp only [Tree.mk.injEq] at e; exact ⟨e.1.symm, e.2.1.symm⟩
    obtain ⟨rfl, rfl⟩ := hq2
    have ha := zr (zo wn none) (nO kd2 tx2 nm2 ps2 ao2 n2 cp2)
    replace HS := (zk HS).qu ha
    clear ha
    (try clear cc)
    have cc := ye.cells HS
    (go_wp2_with fail; (try simp only [ByteArray.mk_append_mk]); with_reducible refine (ye.s HS pl).mono ?_; (try clear cc); clear HS; rintro e wn ⟨⟨v, rfl⟩, HS⟩; have cc := ye.cells HS)
    (go_wp2_with fail; with_reducible refine (ye.part 0 HS HV dc).mono ?_; (try clear cc); clear HS; rintro e wn ⟨⟨kd2, tx2, nm2, ps2, ao2, n2, cp2, rfl, HP⟩, HS⟩; have cc := ye.cells HS)
    (have HJ := ((zk (RHp HR .expr hkk 0 trivial)).pv HP); simp only [JF, JA] at HJ; go_wp2_with fail; with_reducible refine (ye.call HS HJ pl).mono ?_; (try clear cc); clear HS HJ; rintro e wn ⟨rfl, HS⟩; have cc := ye.cells HS)
    (go_wp2_with fail; with_reducible refine (ye.part 1 HS HV dc).mono ?_; (try clear cc); clear HS; rintro e wn ⟨⟨kd2, tx2, nm2, ps2, ao2, n2, cp2, rfl, HP⟩, HS⟩; have cc := ye.cells HS)
    (have HJ := ((zk (RHp HR .clauseStmts hkk 1 trivial)).pv HP); simp only [JF, JA] at HJ; go_wp2_with fail; with_reducible refine (ye.call HS HJ pl).mono ?_; (try clear cc); clear HS HJ; rintro e wn ⟨rfl, HS⟩; have cc := ye.cells HS)
    exact pe
end Go.Proofs.YtheknbfbneghgaaGreatDoor.Pp
set_option maxHeartbeats 8000000
set_option maxRecDepth 100000
namespace Go.Proofs.YtheknbfbneghgaaGreatDoor.Pp
open Go.RowKit Go.Proofs.YtheknbfbneghgaaGreatDoor.Lx Go.Proofs.YtheknbfbneghgaaGreatDoor.Px
theorem ye.itoa {W0 : World} {N b : Nat} {bs X : List UInt8} {d : Nat} {w wr : World} {g : Nat} {kd : Int} {tx : List UInt8} {nm ps : Int} {ao : Option Addr} {n cp : Nat} {digits : Int → List UInt8} {v : Int} (hD : Hid (∀ w', Below N W0 w' → N ≤ w'.heap.size → Calls Tryz.prog 102 #[.int .i64 v] w' fun e w2 => e = .returned (.string ⟨(digits v).toArray⟩) ∧ w'.grownBy w2 none)) (h : Hid (ye W0 N b bs X d w wr g kd tx nm ps ao n cp)) :
    Calls Tryz.prog 102 #[.int .i64 v] wr fun e w' => e = .returned (.string ⟨(digits v).toArray⟩) ∧ Hid (ye W0 N b bs X d w w' g kd tx nm ps ao n cp) :=
  (zk hD wr (zk h).bel (zk h).big).mono fun e w' q => ⟨q.1, (zk h).qu q.2⟩
theorem expr_step {W0 : World} {N b : Nat} (hN : N = W0.heap.size) (digits : Int → List UInt8) (rec : PrJ → Nat → Tree → List UInt8) (d : Nat) (hd : d < 1152921504606846976) (t : Tree) (hr : RH W0 N b rec .expr d t) (ho : okJ .expr t) (hD : ∀ v, t.num = v → ∀ w', Below N W0 w' → N ≤ w'.heap.size → Calls Tryz.prog 102 #[.int .i64 v] w' fun e w2 => e = .returned (.string ⟨(digits v).toArray⟩) ∧ w'.grownBy w2 none) (hQ : ∀ tx, JG W0 N b 103 #[.pointer (some ⟨b, 0, none⟩), .string ⟨List.toArray tx⟩] (quoT tx) d) : JC W0 N b (ym digits rec) .expr d t := by
  intro kd tx nm ps ks ao cp e hK bs w hB hp hl
  subst e
  have HR := zm hr
  have HQ := zm (hQ tx)
  have HD := zm (hD nm rfl)
  clear hr hQ hD
  by_cases h36 : kd = 36
  · subst h36
    have hkk : (Tree.mk 36 tx nm ps ks).kind ≠ 0 := by simp [Tree.kind]
    simp only [ym, sS, sT, Int.reduceEq, reduceIte] at hl ⊢
    have HL := zm hl
    have HV : Hid (PV W0 _ 36 tx nm ps ao ks.length cp) := zm ⟨ks, rfl, rfl, hK⟩
    have HS := ye.start (bs := bs) 36 tx nm ps ao ks.length cp hN hB hp
    clear hp hB hK hl
    simp only [JF, JA]
    go_enter Tryz.func93, Tryz.ntmps93
    (go_wp2; go_region_held2 (fun w' => w'.cell? ⟨w.heap.size, 2, none⟩ = some (.int .i64 nm)) (go_keep) (first | (go_at_call 102; with_reducible refine (ye.itoa HD (ye.dr HS)).mono ?_; (try clear cc); clear HS; rintro e wn ⟨rfl, HS⟩; have cc := ye.cells HS) | (go_at_call 36; with_reducible refine (ye.s HS pl).mono ?_; (try clear cc); clear HS; rintro e wn2 ⟨⟨v, rfl⟩, HS⟩; have cc := ye.cells HS)))
    exact pe
  by_cases h37 : kd = 37
  · subst h37
    have hkk : (Tree.mk 37 tx nm ps ks).kind ≠ 0 := by simp [Tree.kind]
    simp only [ym, sS, sT, Int.reduceEq, reduceIte] at hl ⊢
    have HL := zm hl
    have HV : Hid (PV W0 _ 37 tx nm ps ao ks.length cp) := zm ⟨ks, rfl, rfl, hK⟩
    have HS := ye.start (bs := bs) 37 tx nm ps ao ks.length cp hN hB hp
    clear hp hB hK hl
    simp only [JF, JA]
    go_enter Tryz.func93, Tryz.ntmps93
    (go_wp2_with fail; with_reducible refine (ye.call HS HQ pl).mono ?_; (try clear cc); clear HS; rintro e wn ⟨rfl, HS⟩; have cc := ye.cells HS)
    exact pe
  by_cases h38 : kd = 38
  · subst h38
    have hkk : (Tree.mk 38 tx nm ps ks).kind ≠ 0 := by simp [Tree.kind]
    simp only [ym, sS, sT, Int.reduceEq, reduceIte] at hl ⊢
    have HL := zm hl
    have HV : Hid (PV W0 _ 38 tx nm ps ao ks.length cp) := zm ⟨ks, rfl, rfl, hK⟩
    have HS := ye.start (bs := bs) 38 tx nm ps ao ks.length cp hN hB hp
    clear hp hB hK hl
    simp only [JF, JA]
    go_enter Tryz.func93, Tryz.ntmps93
    (go_wp2; go_region_held2 (fun w' => w'.cell? ⟨w.heap.size, 1, none⟩ = some (.string ⟨tx.toArray⟩)) (go_keep) (first | (go_at_call 36; (try simp only [ByteArray.mk_append_mk]); with_reducible refine (ye.s (ye.dr HS) pl).mono ?_; (try clear cc); clear HS; rintro e wn ⟨⟨v, rfl⟩, HS⟩; have cc := ye.cells HS)))
    exact pe
  by_cases h40 : kd = 40
  · subst h40
    have hkk : (Tree.mk 40 tx nm ps ks).kind ≠ 0 := by simp [Tree.kind]
    simp only [ym, sS, sT, Int.reduceEq, reduceIte] at hl ⊢
    have HL := zm hl
    have HV : Hid (PV W0 _ 40 tx nm ps ao ks.length cp) := zm ⟨ks, rfl, rfl, hK⟩
    have HS := ye.start (bs := bs) 40 tx nm ps ao ks.length cp hN hB hp
    clear hp hB hK hl
    simp only [JF, JA]
    go_enter Tryz.func93, Tryz.ntmps93
    (go_wp2; go_region_held2 (fun w' => w'.cell? ⟨w.heap.size, 1, none⟩ = some (.string ⟨tx.toArray⟩)) (go_keep) (first | (go_at_call 36; (try simp only [ByteArray.mk_append_mk]); with_reducible refine (ye.s (ye.dr HS) pl).mono ?_; (try clear cc); clear HS; rintro e wn ⟨⟨v, rfl⟩, HS⟩; have cc := ye.cells HS)))
    exact pe
  by_cases h39 : kd = 39
  · subst h39
    have hkk : (Tree.mk 39 tx nm ps ks).kind ≠ 0 := by simp [Tree.kind]
    simp only [ym, sS, sT, Int.reduceEq, reduceIte] at hl ⊢
    have HL := zm hl
    have HV : Hid (PV W0 _ 39 tx nm ps ao ks.length cp) := zm ⟨ks, rfl, rfl, hK⟩
    have HS := ye.start (bs := bs) 39 tx nm ps ao ks.length cp hN hB hp
    clear hp hB hK hl
    simp only [JF, JA]
    go_enter Tryz.func93, Tryz.ntmps93
    (go_wp2_with fail; (try simp only [ByteArray.mk_append_mk]); with_reducible refine (ye.s HS pl).mono ?_; (try clear cc); clear HS; rintro e wn ⟨⟨v, rfl⟩, HS⟩; have cc := ye.cells HS)
    exact pe
  by_cases h41 : kd = 41
  · subst h41
    have hkk : (Tree.mk 41 tx nm ps ks).kind ≠ 0 := by simp [Tree.kind]
    simp only [ym, sS, sT, Int.reduceEq, reduceIte] at hl ⊢
    have HL := zm hl
    have HV : Hid (PV W0 _ 41 tx nm ps ao ks.length cp) := zm ⟨ks, rfl, rfl, hK⟩
    have HS := ye.start (bs := bs) 41 tx nm ps ao ks.length cp hN hB hp
    have ht : tx.length ≤ 1099511627776 := pl
    have hc5 : ¬ 9223372036854775807 < 1 + tx.length := om
    clear hp hB hK hl
    simp only [JF, JA]
    go_enter Tryz.func93, Tryz.ntmps93
    (go_wp2; go_region_held2 (fun w' => w'.cell? ⟨w.heap.size, 1, none⟩ = some (.string ⟨tx.toArray⟩)) (go_keep) (first | (go_at_call 36; (try simp only [ByteArray.mk_append_mk]); with_reducible refine (ye.s (ye.dr HS) pl).mono ?_; (try clear cc); clear HS; rintro e wn ⟨⟨v, rfl⟩, HS⟩; have cc := ye.cells HS)))
    (go_wp2_with fail; with_reducible refine (ye.part 0 HS HV dc).mono ?_; (try clear cc); clear HS; rintro e wn ⟨⟨kd2, tx2, nm2, ps2, ao2, n2, cp2, rfl, HP⟩, HS⟩; have cc := ye.cells HS)
    (have HJ := ((zk (RHp HR .expr hkk 0 trivial)).pv HP); simp only [JF, JA] at HJ; go_wp2_with fail; with_reducible refine (ye.call HS HJ pl).mono ?_; (try clear cc); clear HS HJ; rintro e wn ⟨rfl, HS⟩; have cc := ye.cells HS)
    (go_wp2_with fail; with_reducible refine (ye.byte 41 HS dc pl).mono ?_; (try clear cc); clear HS; rintro e wn ⟨⟨v, rfl⟩, HS⟩; have cc := ye.cells HS)
    exact pe
  by_cases h42 : kd = 42
  · subst h42
    have hkk : (Tree.mk 42 tx nm ps ks).kind ≠ 0 := by simp [Tree.kind]
    simp only [ym, sS, sT, Int.reduceEq, reduceIte] at hl ⊢
    have HL := zm hl
    have HV : Hid (PV W0 _ 42 tx nm ps ao ks.length cp) := zm ⟨ks, rfl, rfl, hK⟩
    have HS := ye.start (bs := bs) 42 tx nm ps ao ks.length cp hN hB hp
    clear hp hB hK hl
    simp only [JF, JA]
    go_enter Tryz.func93, Tryz.ntmps93
    (go_wp2_with fail; with_reducible refine (ye.byte 40 HS dc pl).mono ?_; (try clear cc); clear HS; rintro e wn ⟨⟨v, rfl⟩, HS⟩; have cc := ye.cells HS)
    (have HJ := ((zk (RHr HR (.both tx) (by simp [rnk]) zM)).pv HV); simp only [JF, JA] at HJ; go_wp2_with fail; with_reducible refine (ye.call HS HJ pl).mono ?_; (try clear cc); clear HS HJ; rintro e wn ⟨rfl, HS⟩; have cc := ye.cells HS)
    (go_wp2_with fail; with_reducible refine (ye.byte 41 HS dc pl).mono ?_; (try clear cc); clear HS; rintro e wn ⟨⟨v, rfl⟩, HS⟩; have cc := ye.cells HS)
    exact pe
  by_cases h44 : kd = 44
  · subst h44
    have hkk : (Tree.mk 44 tx nm ps ks).kind ≠ 0 := by simp [Tree.kind]
    simp only [ym, sS, sT, Int.reduceEq, reduceIte] at hl ⊢
    have HL := zm hl
    have HV : Hid (PV W0 _ 44 tx nm ps ao ks.length cp) := zm ⟨ks, rfl, rfl, hK⟩
    have HS := ye.start (bs := bs) 44 tx nm ps ao ks.length cp hN hB hp
    clear hp hB hK hl
    simp only [JF, JA]
    go_enter Tryz.func93, Tryz.ntmps93
    (have HJ := ((zk (RHs HR .builtin dc zM)).pv HV); simp only [JF, JA] at HJ; go_wp2_with fail; with_reducible refine (ye.call HS HJ pl).mono ?_; (try clear cc); clear HS HJ; rintro e wn ⟨rfl, HS⟩; have cc := ye.cells HS)
    exact pe
  by_cases h48 : kd = 48
  · subst h48
    have hkk : (Tree.mk 48 tx nm ps ks).kind ≠ 0 := by simp [Tree.kind]
    simp only [ym, sS, sT, Int.reduceEq, reduceIte] at hl ⊢
    have HL := zm hl
    have HV : Hid (PV W0 _ 48 tx nm ps ao ks.length cp) := zm ⟨ks, rfl, rfl, hK⟩
    have HS := ye.start (bs := bs) 48 tx nm ps ao ks.length cp hN hB hp
    clear hp hB hK hl
    simp only [JF, JA]
    go_enter Tryz.func93, Tryz.ntmps93
    (go_wp2_with fail; (try simp only [ByteArray.mk_append_mk]); with_reducible refine (ye.s HS pl).mono ?_; (try clear cc); clear HS; rintro e wn ⟨⟨v, rfl⟩, HS⟩; have cc := ye.cells HS)
    (have HJ := ((zk (RHs HR .function dc zM)).pv HV); simp only [JF, JA] at HJ; go_wp2_with fail; with_reducible refine (ye.call HS HJ pl).mono ?_; (try clear cc); clear HS HJ; rintro e wn ⟨rfl, HS⟩; have cc := ye.cells HS)
    exact pe
  by_cases h49 : kd = 49
  · subst h49
    have hkk : (Tree.mk 49 tx nm ps ks).kind ≠ 0 := by simp [Tree.kind]
    simp only [ym, sS, sT, Int.reduceEq, reduceIte] at hl ⊢
    have HL := zm hl
    have HV : Hid (PV W0 _ 49 tx nm ps ao ks.length cp) := zm ⟨ks, rfl, rfl, hK⟩
    have HS := ye.start (bs := bs) 49 tx nm ps ao ks.length cp hN hB hp
    have ht : tx.length ≤ 1099511627776 := pl
    have hc5 : ¬ 9223372036854775807 < 2 + tx.length := om
    have hc6 : ¬ 9223372036854775807 < 2 + tx.length + 1 := om
    clear hp hB hK hl
    simp only [JF, JA]
    go_enter Tryz.func93, Tryz.ntmps93
    (go_wp2; go_region_held2 (fun w' => w'.cell? ⟨w.heap.size, 1, none⟩ = some (.string ⟨tx.toArray⟩)) (go_keep) (first | (go_at_call 36; (try simp only [ByteArray.mk_append_mk]); with_reducible refine (ye.s (ye.dr HS) pl).mono ?_; (try clear cc); clear HS; rintro e wn ⟨⟨v, rfl⟩, HS⟩; have cc := ye.cells HS)))
    (have hpj : plainJ .initial := fun _ _ => rfl; have hjf : JF .initial = 106 := rfl; have hen : Ent 106 := ent_of 106 dc; have HU := (RHk HR .initial (l := ks) (fun _ => trivial) (fun _ h => h)); have HQ := (PV.rv HV); go_wp2_with fail; with_reducible refine (ye.list .initial HS HQ hpj hjf hen HU pl).mono ?_; clear hpj hjf hen HU HQ; (try clear cc); clear HS; rintro e wn ⟨rfl, HS⟩; have cc := ye.cells HS)
    (go_wp2_with fail; (try simp only [ByteArray.mk_append_mk]); with_reducible refine (ye.s HS pl).mono ?_; (try clear cc); clear HS; rintro e wn ⟨⟨v, rfl⟩, HS⟩; have cc := ye.cells HS)
    exact pe
  by_cases h50 : kd = 50
  · subst h50
    have hkk : (Tree.mk 50 tx nm ps ks).kind ≠ 0 := by simp [Tree.kind]
    simp only [ym, sS, sT, Int.reduceEq, reduceIte] at hl ⊢
    have HL := zm hl
    have HV : Hid (PV W0 _ 50 tx nm ps ao ks.length cp) := zm ⟨ks, rfl, rfl, hK⟩
    have HS := ye.start (bs := bs) 50 tx nm ps ao ks.length cp hN hB hp
    clear hp hB hK hl
    simp only [JF, JA]
    go_enter Tryz.func93, Tryz.ntmps93
    (go_wp2_with fail; (try simp only [ByteArray.mk_append_mk]); with_reducible refine (ye.s HS pl).mono ?_; (try clear cc); clear HS; rintro e wn ⟨⟨v, rfl⟩, HS⟩; have cc := ye.cells HS)
    (go_wp2_with fail; with_reducible refine (ye.part 0 HS HV dc).mono ?_; (try clear cc); clear HS; rintro e wn ⟨⟨kd2, tx2, nm2, ps2, ao2, n2, cp2, rfl, HP⟩, HS⟩; have cc := ye.cells HS)
    (have HJ := ((zk (RHp HR .wtype hkk 0 trivial)).pv HP); simp only [JF, JA] at HJ; go_wp2_with fail; with_reducible refine (ye.call HS HJ pl).mono ?_; (try clear cc); clear HS HJ; rintro e wn ⟨rfl, HS⟩; have cc := ye.cells HS)
    (go_wp2_with fail; with_reducible refine (ye.byte 123 HS dc pl).mono ?_; (try clear cc); clear HS; rintro e wn ⟨⟨v, rfl⟩, HS⟩; have cc := ye.cells HS)
    (go_wp2_with fail; with_reducible refine (ye.from_ HS HV).mono ?_; (try clear cc); clear HS; rintro e wn ⟨⟨ar, nr, cr, rfl, HR2⟩, HS⟩; have cc := ye.cells HS)
    (have hpj : plainJ .expr := fun _ _ => rfl; have hjf : JF .expr = 93 := rfl; have hen : Ent 93 := ent_of 93 dc; have HU := (RHk HR .expr (l := ks.drop 1) (fun _ => trivial) (fun _ h => List.mem_of_mem_drop h)); have HQ := HR2; go_wp2_with fail; with_reducible refine (ye.list .expr HS HQ hpj hjf hen HU pl).mono ?_; clear hpj hjf hen HU HQ; (try clear cc); clear HS; rintro e wn ⟨rfl, HS⟩; have cc := ye.cells HS)
    (go_wp2_with fail; (try simp only [ByteArray.mk_append_mk]); with_reducible refine (ye.s HS pl).mono ?_; (try clear cc); clear HS; rintro e wn ⟨⟨v, rfl⟩, HS⟩; have cc := ye.cells HS)
    exact pe
  simp only [ym, sS, sT, Int.reduceEq, reduceIte, h36, h37, h38, h40, h39, h41, h42, h44, h48, h49, h50] at hl ⊢
  have HL := zm hl
  have HV : Hid (PV W0 _ kd tx nm ps ao ks.length cp) := zm ⟨ks, rfl, rfl, hK⟩
  have HS := ye.start (bs := bs) kd tx nm ps ao ks.length cp hN hB hp
  clear hp hB hK hl
  simp only [JF, JA]
  go_enter Tryz.func93, Tryz.ntmps93
  (have HJ := ((zk (RHs HR .primary dc zM)).pv HV); simp only [JF, JA] at HJ; go_wp2_with fail; with_reducible refine (ye.call HS HJ pl).mono ?_; (try clear cc); clear HS HJ; rintro e wn ⟨rfl, HS⟩; have cc := ye.cells HS)
  exact pe
end Go.Proofs.YtheknbfbneghgaaGreatDoor.Pp
set_option maxRecDepth 100000
namespace Go.Proofs.YtheknbfbneghgaaGreatDoor.Pp
open Go.RowKit Go.Proofs.YtheknbfbneghgaaGreatDoor.Lx Go.Proofs.YtheknbfbneghgaaGreatDoor.Px
/-- What Itoa gives, at any world behind W0. -/
def ItoaP (W0 : World) (N : Nat) (digits : Int → List UInt8) (v : Int) : Prop := ∀ w', Below N W0 w' → N ≤ w'.heap.size → Calls Tryz.prog 102 #[.int .i64 v] w' fun e w2 => e = .returned (.string ⟨(digits v).toArray⟩) ∧ w'.grownBy w2 none
/-- Every number in a tree is one that Itoa is known at. -/
def NumsOk (P : Int → Prop) : Tree → Prop
  | .mk _ _ n _ l => P n ∧ ∀ t ∈ l, NumsOk P t
theorem NumsOk_mk (P : Int → Prop) (k : Int) (x : List UInt8) (n p : Int) (l : List Tree) : NumsOk P (.mk k x n p l) ↔ (P n ∧ ∀ t ∈ l, NumsOk P t) := by rw [NumsOk]
theorem NumsOk.num {P : Int → Prop} {t : Tree} (h : NumsOk P t) : P t.num := by
  cases t; rw [NumsOk_mk] at h; exact h.1
theorem NumsOk.sub {P : Int → Prop} (h0 : P 0) {s t : Tree} (h : NumsOk P t) (k : Sub s t) : NumsOk P s := by
  rcases k with rfl | k | rfl
  · exact h
  · cases t; rw [NumsOk_mk] at h; exact h.2 _ k
  · rw [zeroT, NumsOk_mk]; exact ⟨h0, fun t m => by simp at m⟩
theorem jobs_all {W0 : World} {N b : Nat} (hN : N = W0.heap.size) (digits : Int → List UInt8) (P : Int → Prop) (hP0 : P 0) (hD : ∀ v, P v → ItoaP W0 N digits v) : ∀ (n : Nat) (j : PrJ) (d : Nat) (t : Tree), nee j t < n → okJ j t → d + sz t < 1152921504606846976 → NumsOk P t → JC W0 N b (pr digits n) j d t
  | 0, j, d, t, h, _, _, _ => absurd h (Nat.not_lt_zero _)
  | n + 1, j, d, t, h, ho, hd, hn => by
    have hr : RH W0 N b (pr digits n) j d t := fun j' d' t' h1 h2 h3 h4 => by
      refine jobs_all hN digits P hP0 hD n j' d' t' om h2 ?_ (hn.sub hP0 h4)
      rcases h3 with rfl | ⟨rfl, h4⟩
      · have : sz t' ≤ sz t := by unfold nee at h1; have := rank_le j; omega
        omega
      · omega
    have hd' : d < 1152921504606846976 := om
    have hQ : ∀ tx, JG W0 N b 103 #[.pointer (some ⟨b, 0, none⟩), .string ⟨List.toArray tx⟩] (quoT tx) d := fun tx bs w hB hp hl => quoted_any W0 N b hN d tx bs w hB hp hl
    show JC W0 N b (ym digits (pr digits n)) j d t
    cases j with
    | expr => exact expr_step hN digits _ d hd' t hr ho (fun v e w' => hD v (e ▸ hn.num) w') hQ
    | stmt => exact stmt_step hN digits _ d hd' t hr ho
    | block => exact block_step hN digits _ d hd' t hr ho
    | wtype => exact wtype_step hN digits _ d hd' t hr ho
    | typed => exact typed_step hN digits _ d hd' t hr ho
    | field => exact field_step hN digits _ d hd' t hr ho
    | param => exact param_step hN digits _ d hd' t hr ho
    | params => exact params_step hN digits _ d hd' t hr ho
    | function => exact function_step hN digits _ d hd' t hr ho
    | decl => exact decl_step hN digits _ d hd' t hr ho
    | simple => exact simple_step hN digits _ d hd' t hr ho
    | both s => exact both_step hN digits _ s d t hr ho
    | exprStmt => exact exprStmt_step hN digits _ d hd' t hr ho
    | initial => exact initial_step hN digits _ d hd' t hr ho
    | builtin => exact builtin_step hN digits _ d hd' t hr ho
    | pointed => exact pointed_step hN digits _ d hd' t hr ho
    | primary => exact primary_step hN digits _ d hd' t hr ho
    | ifStmt => exact ifStmt_step hN digits _ d hd' t hr ho
    | forStmt => exact forStmt_step hN digits _ d hd' t hr ho
    | forParts => exact forParts_step hN digits _ d hd' t hr ho
    | switchStmt => exact switchStmt_step hN digits _ d hd' t hr ho
    | selectStmt => exact selectStmt_step hN digits _ d hd' t hr ho
    | clause => exact clause_step hN digits _ d hd' t hr ho
    | comm => exact comm_step hN digits _ d hd' t hr ho
    | receiving => exact receiving_step hN digits _ d hd' t hr ho
    | clauseStmts => exact clauseStmts_step hN digits _ d hd' t hr ho
    | jump s => exact jump_step hN digits _ s d hd' t hr ho
    | file => exact file_step hN digits _ d hd' t hr ho
end Go.Proofs.YtheknbfbneghgaaGreatDoor.Pp
set_option maxRecDepth 100000
namespace Go.Proofs
open Go.Shelf
def Tryz.laysM171_ren : Go.Shelf.Ren := ⟨fun | 171 => 102 | 243 => 123 | 246 => 137 | 283 => 148 | 284 => 149 | 285 => 150 | 286 => 151 | 129 => 159 | 317 => 158 | 318 => 160 | 319 => 161 | 320 => 162 | 337 => 169 | 338 => 170 | n => n, fun | 3 => 3 | 9 => 9 | 2 => 2 | 4 => 4 | 171 => 146 | 0 => 0 | 53 => 147 | 37 => 46 | 5 => 5 | 173 => 150 | 212 => 157 | 51 => 158 | 20 => 20 | 213 => 159 | 46 => 161 | 232 => 165 | 233 => 166 | n => n, fun | 17 => 2 | 18 => 3 | 19 => 4 | n => n⟩
theorem Tryz.laysM171 : Go.Proofs.LaysM.n171 Tryz.prog Tryz.laysM171_ren := {
  mixed := by kernel_rfl
  f129 := Tryz.func159.trans (congrArg some (by kernel_rfl))
  f171 := Tryz.func102.trans (congrArg some (by kernel_rfl))
  f243 := Tryz.func123.trans (congrArg some (by kernel_rfl))
  f246 := Tryz.func137.trans (congrArg some (by kernel_rfl))
  f283 := Tryz.func148.trans (congrArg some (by kernel_rfl))
  f284 := Tryz.func149.trans (congrArg some (by kernel_rfl))
  f285 := Tryz.func150.trans (congrArg some (by kernel_rfl))
  f286 := Tryz.func151.trans (congrArg some (by kernel_rfl))
  f317 := Tryz.func158.trans (congrArg some (by kernel_rfl))
  f318 := Tryz.func160.trans (congrArg some (by kernel_rfl))
  f319 := Tryz.func161.trans (congrArg some (by kernel_rfl))
  f320 := Tryz.func162.trans (congrArg some (by kernel_rfl))
  f337 := Tryz.func169.trans (congrArg some (by kernel_rfl))
  f338 := Tryz.func170.trans (congrArg some (by kernel_rfl))
  t0 := Tryz.underlying0
  a0 := Tryz.isAgg0
  z0 := Tryz.sizeOf0
  v0 := Tryz.zeroValue0
  t2 := Tryz.underlying2
  a2 := Tryz.isAgg2
  z2 := Tryz.sizeOf2
  v2 := Tryz.zeroValue2
  t3 := Tryz.underlying3
  a3 := Tryz.isAgg3
  z3 := Tryz.sizeOf3
  v3 := Tryz.zeroValue3
  t4 := Tryz.underlying4
  a4 := Tryz.isAgg4
  z4 := Tryz.sizeOf4
  v4 := Tryz.zeroValue4
  t5 := Tryz.underlying5
  a5 := Tryz.isAgg5
  z5 := Tryz.sizeOf5
  v5 := Tryz.zeroValue5
  t9 := Tryz.underlying9
  a9 := Tryz.isAgg9
  z9 := Tryz.sizeOf9
  v9 := Tryz.zeroValue9
  t20 := Tryz.underlying20
  a20 := Tryz.isAgg20
  z20 := Tryz.sizeOf20
  v20 := Tryz.zeroValue20
  t37 := Tryz.underlying46
  a37 := Tryz.isAgg46
  z37 := Tryz.sizeOf46
  v37 := Tryz.zeroValue46
  t46 := Tryz.underlying161
  a46 := Tryz.isAgg161
  z46 := Tryz.sizeOf161
  v46 := Tryz.zeroValue161
  t51 := Tryz.underlying158
  a51 := Tryz.isAgg158
  z51 := Tryz.sizeOf158
  v51 := Tryz.zeroValue158
  t53 := Tryz.underlying147
  a53 := Tryz.isAgg147
  z53 := Tryz.sizeOf147
  v53 := Tryz.zeroValue147
  t171 := Tryz.underlying146
  a171 := Tryz.isAgg146
  z171 := Tryz.sizeOf146
  v171 := Tryz.zeroValue146
  t173 := Tryz.underlying150
  a173 := Tryz.isAgg150
  z173 := Tryz.sizeOf150
  v173 := Tryz.zeroValue150
  t212 := Tryz.underlying157
  a212 := Tryz.isAgg157
  z212 := Tryz.sizeOf157
  v212 := Tryz.zeroValue157
  t213 := Tryz.underlying159
  a213 := Tryz.isAgg159
  z213 := Tryz.sizeOf159
  t232 := Tryz.underlying165
  a232 := Tryz.isAgg165
  z232 := Tryz.sizeOf165
  v232 := Tryz.zeroValue165
  t233 := Tryz.underlying166
  a233 := Tryz.isAgg166
  z233 := Tryz.sizeOf166
  v233 := Tryz.zeroValue166
  g17 := by kernel_rfl
  g18 := by kernel_rfl
  g19 := by kernel_rfl
  i0 := by kernel_rfl
  i2 := by kernel_rfl
  i3 := by kernel_rfl
  i4 := by kernel_rfl
  i5 := by kernel_rfl
  i9 := by kernel_rfl
  i20 := by kernel_rfl
  i37 := by kernel_rfl
  i46 := by kernel_rfl
  i51 := by kernel_rfl
  i53 := by kernel_rfl
  i171 := by kernel_rfl
  i173 := by kernel_rfl
  i212 := by kernel_rfl
  i232 := by kernel_rfl
  i233 := by kernel_rfl
  m17 := by kernel_rfl
  m18 := by kernel_rfl
  m19 := by kernel_rfl }
open Go.RowKit Go.Sort Go.Lib in
/-- strconv.Itoa: "Itoa is equivalent to FormatInt(int64(i), 10).": i's DECIMAL NUMERAL ('Lib.itoa': a '-' where i is negative, then the digits), FOR EVERY int. The world behind the call: the world before it, new blocks behind the heap (the library's 'var a [24]byte'), draws. (LAID: no walk: one application.) -/
theorem Tryz.strconv_Itoa (n : Int) (h0 : -9223372036854775808 ≤ n) (h1 : n ≤ 9223372036854775807) (w : World) (htab : Lib.TabIs Tryz.prog w "internal/strconv.uint64pow10" .u64 Lib.pow10Tab) :
    Calls Tryz.prog 102 #[.int .i64 n] w fun e w' => e = .returned (.string ⟨(Lib.itoa n).toArray⟩) ∧ ∃ k os, w' = grow (w.drewN k) os := Any.strconv_Itoa Tryz.laysM171 n h0 h1 w htab
end Go.Proofs
namespace Go.Proofs.YtheknbfbneghgaaGreatDoor.Pp
open Go.RowKit Go.Proofs.YtheknbfbneghgaaGreatDoor.Lx Go.Proofs.YtheknbfbneghgaaGreatDoor.Px
theorem drewN_heap (w : World) (k : Nat) : (w.drewN k).heap = w.heap ∧ (w.drewN k).tape = w.tape ∧ (w.drewN k).output = w.output ∧ (w.drewN k).os = w.os := by
  induction k generalizing w with
  | zero => exact ⟨rfl, rfl, rfl, rfl⟩
  | succ k ih => exact ih w.drew
theorem grown_grow (w : World) (k : Nat) (os : Array Obj) : w.grownBy (Sort.grow (w.drewN k) os) none := by
  obtain ⟨h1, h2, h3, h4⟩ := drewN_heap w k
  refine ⟨h4, h2, h3, ?_, fun i hi _ => ?_⟩
  · simp [Sort.grow, h1]
  · simp [Sort.grow, h1, Array.getElem?_append_left hi]
def I64 (v : Int) : Prop := -9223372036854775808 ≤ v ∧ v ≤ 9223372036854775807
abbrev TabOk (w : World) : Prop := Lib.TabIs Tryz.prog w "internal/strconv.uint64pow10" .u64 Lib.pow10Tab
theorem itoa_ok {W0 : World} {N : Nat} (hN : N = W0.heap.size) (hT : TabOk W0) (v : Int) (hv : I64 v) : ItoaP W0 N Lib.itoa v := by
  intro w' hB _
  subst hN
  refine (Tryz.strconv_Itoa v hv.1 hv.2 w' (Lib.tabBelow_of_tabIs hT w' hB)).mono ?_
  rintro e w2 ⟨rfl, k, os, rfl⟩
  exact ⟨rfl, grown_grow w' k os⟩
end Go.Proofs.YtheknbfbneghgaaGreatDoor.Pp
set_option maxHeartbeats 2000000
set_option maxRecDepth 100000
namespace Go.Proofs.YtheknbfbneghgaaGreatDoor.Pp
open Go.RowKit Go.Proofs.YtheknbfbneghgaaGreatDoor.Lx Go.Proofs.YtheknbfbneghgaaGreatDoor.Px
theorem File_any (w : World) (kd : Int) (tx : List UInt8) (nm ps : Int) (ks : List Tree) (ao : Option Addr) (cp n : Nat) (hk : Jj.KidsAt w (.slice ao ks.length cp) ks) (hT : TabOk w) (hn : NumsOk I64 (.mk kd tx nm ps ks)) (hf : nee .file (.mk kd tx nm ps ks) < n) (hz : sz (.mk kd tx nm ps ks) < 1152921504606846976) (hl : (pr Lib.itoa n .file 0 (.mk kd tx nm ps ks)).length ≤ 1099511627776) :
    Calls Tryz.prog 8 #[nA kd tx nm ps ao ks.length cp] w fun e w' => e = .returned (.string ⟨(pr Lib.itoa n .file 0 (.mk kd tx nm ps ks)).toArray⟩) ∧ w.grownBy w' none := by
  have hJ : ∀ b, JC w w.heap.size b (pr Lib.itoa n) .file 0 (.mk kd tx nm ps ks) := fun b => jobs_all rfl Lib.itoa I64 ⟨om, om⟩ (fun v hv => itoa_ok rfl hT v hv) n .file 0 _ hf trivial om hn
  have HJ := zm (fun b => hJ b kd tx nm ps ks ao cp rfl hk)
  obtain ⟨T, hTT⟩ : ∃ T, T = pr Lib.itoa n .file 0 (.mk kd tx nm ps ks) := ⟨_, rfl⟩
  rw [← hTT] at HJ hl ⊢
  simp only [JF, JA] at HJ
  clear hTT hJ hT hn hf hz hk
  have hP : PB w.heap.size (w.heap.size + 1) (0 : Nat) (Lib.byteCells []) ((w.alloc (nO kd tx nm ps ao ks.length cp)).alloc (.cells #[.pointer none, .slice none 0 0, .int .i64 0] 50)) := .inl ⟨om, .slice none 0 0, yW _ _ zK, World.ownsRowF_nil _ _ _ _, by intro h; cases h⟩
  have hB : Below w.heap.size w ((w.alloc (nO kd tx nm ps ao ks.length cp)).alloc (.cells #[.pointer none, .slice none 0 0, .int .i64 0] 50)) := ((Below.refl _ _).alloc lr _).alloc zK _
  have HX := zm (zk HJ (w.heap.size + 1) [] _ hB hP (by simpa using hl))
  have HB := zm hB
  clear HJ hP hB
  go_enter Tryz.func8, Tryz.ntmps8
  go_wp2_with fail
  with_reducible refine (zk HX).mono ?_
  rintro e w2 ⟨rfl, h2⟩
  have hb2 := (zk HB).trans h2.2.1
  have HY := zm (string_any _ _ _ _ _ h2.1 hb2.size)
  have HB2 := zm hb2
  clear h2 hb2
  go_wp2_with fail
  with_reducible refine (zk HY).mono ?_
  rintro e w3 ⟨rfl, h3⟩
  have HB3 := zm ((zk HB2).trans h3)
  clear h3
  go_wp2
  go_ret
  exact ⟨by simp, grown_of rfl (zk HB3)⟩
end Go.Proofs.YtheknbfbneghgaaGreatDoor.Pp
